
/- CkptChain holds for every list of tries. No conditions. -/
import Derived.Test.YtcbblgeleboggaaCkB
import Derived.BigQuiet
namespace Go.Proofs.Ytcbblgeleboggaa.ckptChain
open Go.ChangeShapes Go.WideShapes Go.ChangeAt Go.RowKit
open Go.ChangeMaps (open_string shut_string)
set_option linter.unusedVariables false
open Go.RowKit Go.Sort Go.Maps
set_option linter.unusedSimpArgs false
structure TryV where
  ba : Option Addr
  bc : Nat
  Z : List Int
  s : Int
  ka : Option Addr
  kc : Nat
  K : List Int
def TryV.cells (x : TryV) : List Value := [.slice x.ba x.Z.length x.bc, .int .i64 x.s, .slice x.ka x.K.length x.kc]
theorem TryV.cells_len (x : TryV) : x.cells.length = 3 := rfl
def TryV.good (W : World) (x : TryV) : Prop := Ints .u8 W x.ba x.Z.length x.bc x.Z ∧ InI x.s ∧ Ints .i64 W x.ka x.K.length x.kc x.K
theorem list3d {l : List Value} (h : l.length = 3) : ∃ a b c, l = [a, b, c] := by
  match l, h with
  | [a, b, c], _ => exact ⟨_, _, _, rfl⟩
theorem rd_try {w : World} {cs : List Value} (h : Rd Try.prog w 56 cs) : ∃ x : TryV, cs = x.cells ∧ x.good w := by
  obtain ⟨hl, hf⟩ := Rd.struct Try.underlying56 h
  rw [show Try.prog.cellsOf 56 = 3 by kernel_rfl] at hl
  obtain ⟨a, b, c, rfl⟩ := list3d hl
  have h0 := hf 0 _ rfl
  have h1 := hf 1 _ rfl
  have h2 := hf 2 _ rfl
  simp [show Try.prog.cellsOf 3 = 1 by kernel_rfl, show Try.prog.cellsOf 29 = 1 by kernel_rfl, show Try.prog.cellsOf 43 = 1 by kernel_rfl] at h0 h1 h2
  obtain ⟨ba, bl, bc, rfl⟩ := rd_u8sl h0
  obtain ⟨Z, f1, f2, f3⟩ := Rd.rows (fun n : Int => [Value.int .u8 n]) 1 Try.underlying29 (by kernel_rfl) (by omega) (fun _ => rfl) (fun n => (Lit.int .u8 n).wf = true) (fun es hes => Rd.int Try.underlying5 hes) h0
  obtain ⟨s, e1, w1⟩ := Rd.int Try.underlying3 h1
  obtain ⟨ka, kl, kc, rfl⟩ := rd_isl h2
  obtain ⟨K, g1, g2, g3⟩ := Rd.rows (fun n : Int => [Value.int .i64 n]) 1 Try.underlying43 (by kernel_rfl) (by omega) (fun _ => rfl) (fun n => (Lit.int .i64 n).wf = true) (fun es hes => Rd.int Try.underlying3 hes) h2
  simp at e1
  subst e1 f1 g1
  exact ⟨⟨ba, bc, Z, s, ka, kc, K⟩, rfl, ⟨by rw [flat_int] at f3; exact f3, f2⟩, inI_of_wf w1, by rw [flat_int] at g3; exact g3, g2⟩
set_option maxRecDepth 100000 in
theorem open_tries {H : Type} {enc : TypeId × Value → H} {W : World} {v : Value} {b : Nat} {d : DataW H} {p : List MemPlace} (o : Value.okWide Try.prog W .any b 54 v) (h : DataW.Trod enc Try.prog W 0 (fun _ => true) true 54 v d p) :
    ∃ (a : Option Addr) (len cap : Nat) (L : List TryV), v = .slice a len cap ∧ L.length = len ∧ (∀ x ∈ L, x.good W) ∧ Row W a len cap 3 (L.flatMap TryV.cells) := by
  obtain ⟨a, len, cap, rfl⟩ := slice_of_ok Try.underlying54 o
  obtain ⟨L, h1, h2, h3⟩ := Rd.rows TryV.cells 3 Try.underlying54 (by kernel_rfl) (by omega) TryV.cells_len (TryV.good W) (fun es hes => rd_try hes) (Rd.of h)
  exact ⟨a, len, cap, L, rfl, h1, h2, h3⟩
/-- The checkpoint of version v: none is version 0. -/
def verF (v : Nat) (Z : List Int) : Option (List Int) := if v = 0 then none else some (frameL v Z)
theorem ck_OpenV (B M : Nat) (X : List Nat) (c : Nat) (t : Option (List Int)) (w : World) (v : Nat) (Z : List Int) (h : DKv B w M X (ckD c (verF v Z) t)) (hX : ∀ b ∈ X, b < w.heap.size) (hB : B ≤ w.heap.size) (hc : c ≤ 90000) (hv : v < 4294967296) (hZ : Z.length ≤ 1048576) (h0 : v = 0 → Z = []) :
    Calls Try.prog 11 #[.pointer (some ⟨M, 0, none⟩)] w fun e w' => ∃ N ax cx, e = .returned (.tuple #[.pointer (some ⟨N, 0, none⟩), .slice ax Z.length cx, .int .i64 (if v = 0 then 4 else 0)]) ∧ Ints .u8 w' ax Z.length cx Z ∧ StA w' N M (v : Int) ∧ w.heap.size ≤ N ∧ (∃ c', c' ≤ c + 1 ∧ DKv B w' M [N] (ckD c' (verF v Z) none)) ∧ Below B w w' := by
  by_cases hv0 : v = 0
  · subst hv0
    obtain rfl := h0 rfl
    refine (ck_Open_none B M X c t w h hX hB hc).mono ?_
    rintro e w' ⟨N, rfl, h1, h2, ⟨c', h3, h4⟩, h5, -⟩
    exact ⟨N, none, 0, rfl, ints_nil _ _, h1, h2, ⟨c', h3, h4.more (fun b hb => .inl (by simp at hb; subst hb; exact List.mem_cons_self))⟩, h5⟩
  · have hf : verF v Z = some (frameL v Z) := by unfold verF; rw [if_neg hv0]
    rw [hf] at h ⊢
    rw [if_neg hv0]
    refine (ck_Open_ok B M X c t w _ v Z Z.length ⟨rfl, hv, hZ⟩ rfl h hX hB hc).mono ?_
    rintro e w' ⟨N, g, c2, ax, cx, rfl, -, -, -, h1, h2, h3, -, ⟨c', h4, h5⟩, h6, -⟩
    exact ⟨N, ax, cx, rfl, h1, h2, h3, ⟨c', h4, h5.more (fun b hb => .inl (by simp at hb; subst hb; exact List.mem_cons_self))⟩, h6⟩
set_option maxRecDepth 100000 in
set_option maxHeartbeats 16000000 in
theorem walk (a : Option Addr) (len cap : Nat) (L : List TryV) (w : World) (hl : L.length = len) (hg : ∀ x ∈ L, x.good w) (hR : Row w a len cap 3 (L.flatMap TryV.cells)) :
    Calls Try.prog 7 #[.slice a len cap] w fun e w' => e = .returned (.bool true) ∧ Below w.heap.size w w' := by
  have hw : Below w.heap.size w w := Below.refl _ _
  have hbel := hw
  have hbd_a : len ≤ cap ∧ cap ≤ 9223372036854775807 := by obtain ⟨_, h1, h2, _⟩ := hR; unfold maxLen at h2; exact ⟨h1, h2⟩
  obtain ⟨hbd1_a, hbd2_a⟩ := hbd_a
  have HR := Lib.hid hR
  have HG := Lib.hid hg
  subst hl
  clear hR hg
  by_cases h20 : 20 < L.length
  · go_enter Try.func7, Try.ntmps7
    go_wp2_with (first | (go_at_call 8; (with_reducible refine (awake_11 _).mono ?_); rintro e wa ⟨rfl, ha⟩; have hbel := belStep hbel ha; clear ha))
    go_ret
    exact ⟨rfl, hbel⟩
  · go_enter Try.func7, Try.ntmps7
    go_upto_region 6 with (first | (go_at_call 8; (with_reducible refine (awake_11 _).mono ?_); rintro e wa ⟨rfl, ha⟩; have hbel := belStep hbel ha; clear ha) | (go_at_call 10; (with_reducible refine (dl_New w.heap.size [] _ (fun b hb => absurd hb List.not_mem_nil) hbel.size).mono ?_); rintro e w1 ⟨M, rfl, hd_, hb_⟩; have HD := Lib.hid (show DKv w.heap.size w1 M [] (ckD 0 none none) from hd_); have HB1 := Lib.hid (hbel.trans hb_); clear hd_ hb_))
    clear hbel hw
    go_wp2
    go_loopw [4, 5, 6] (fun bo ve i wr => ∃ (k v c : Nat) (ya : Option Addr) (yc : Nat) (Z : List Int), k ≤ L.length ∧ i = .int .i64 k ∧ ve = .int .i64 v ∧ v ≤ k ∧ bo = .slice ya Z.length yc ∧ Ints .u8 w ya Z.length yc Z ∧ c ≤ 4 * k ∧ DKv w.heap.size wr M [] (ckD c (verF v Z) none) ∧ (v = 0 → Z = []) ∧ Z.length ≤ 300 ∧ Below w.heap.size w wr) (fun _ _ i _ => L.length - (intOf i).toNat)
    case atStart => exact ⟨0, 0, 0, none, 0, [], Nat.zero_le _, rfl, rfl, Nat.le_refl _, rfl, ints_nil _ _, by omega, HD.out, fun _ => rfl, by simp, HB1.out⟩
    case round =>
      clear HD HB1
      obtain ⟨k, v, c, ya, yc, Z, hkk, rfl, rfl, hvk, rfl, hZ, hc, hd, h0, hZl, hbel⟩ := hrel
      have HZ := Lib.hid hZ
      have H0 := Lib.hid h0
      have HD := Lib.hid hd
      have HB := Lib.hid hbel
      clear hd hZ h0
      by_cases hlt : k < L.length
      · have hd : decide ((k : Int) < (L.length : Int)) = true := decide_eq_true (by omega)
        have hki : (k : Int) < (L.length : Int) := by omega
        have hk0 : (0 : Int) ≤ (k : Int) := by omega
        have hwk : IntKind.i64.wrap ((k : Int) + 1) = (k : Int) + 1 := IntWalk.i64_in _ (by omega)
        have hwv : IntKind.i64.wrap ((v : Int) + 1) = (v : Int) + 1 := IntWalk.i64_in _ (by omega)
        obtain ⟨x, hx⟩ : ∃ x, L[k]? = some x := ⟨L[k], List.getElem?_eq_getElem hlt⟩
        obtain ⟨bc, oc, ec, _, hcc⟩ := (HR.out).elem TryV.cells_len (by omega) hx
        subst ec
        have c0 := keep (hcc 0 _ rfl)
        have c1 := keep (hcc 1 _ rfl)
        have c2 := keep (hcc 2 _ rfl)
        rw [Nat.add_zero] at c0
        have HG2 := Lib.hid (HG.out _ (List.mem_of_getElem? hx))
        clear hx hcc
        have hbx := HG2.out.1.bounds
        have hbk := HG2.out.2.2.bounds
        obtain ⟨-, hbx1, hbx2⟩ := hbx
        obtain ⟨-, hbk1, hbk2⟩ := hbk
        obtain ⟨hs1, hs2⟩ := HG2.out.2.1
        by_cases h300 : 300 < x.Z.length
        · have e1 : decide ((300 : Int) < (x.Z.length : Int)) = true := decide_eq_true (by omega)
          have e2 : (300 : Int) < (x.Z.length : Int) := by omega
          go_wp2
          go_ret
          exact ⟨rfl, HB.out⟩
        · have e1 : decide ((300 : Int) < (x.Z.length : Int)) = false := decide_eq_false (by omega)
          have e2 : ¬ (300 : Int) < (x.Z.length : Int) := by omega
          by_cases h60 : 60 < x.K.length
          · have e3 : decide ((60 : Int) < (x.K.length : Int)) = true := decide_eq_true (by omega)
            have e4 : (60 : Int) < (x.K.length : Int) := by omega
            go_wp2
            go_ret
            exact ⟨rfl, HB.out⟩
          · have e3 : decide ((60 : Int) < (x.K.length : Int)) = false := decide_eq_false (by omega)
            have e4 : ¬ (60 : Int) < (x.K.length : Int) := by omega
            have C1 := Lib.hid (ck_OpenV w.heap.size M [] c none wr v Z HD.out (fun b hb => absurd hb List.not_mem_nil) HB.out.size (by omega) (by omega) (by omega) H0.out)
            go_upto_region 14 with (go_at_call 11; (with_reducible refine (C1.out).mono ?_); rintro e w3 ⟨N, a3, c3, rfl, -, hs_, hn_, ⟨c4, hc4, hd_⟩, hb_⟩; have HD3 := Lib.hid hd_; have HS3 := Lib.hid hs_; have HB3 := Lib.hid (HB.out.trans hb_); have hN : w.heap.size ≤ N := Nat.le_trans HB.out.size hn_; have hbel := HB3.out; clear hs_ hd_ hb_ hn_ C1 HD HB)
            have hNl := Blk.lt HS3.out
            obtain ⟨f, hf⟩ : ∃ f, frameL (v + 1) x.Z = f := ⟨_, rfl⟩
            have HF := Lib.hid hf
            have kd : Below w3.heap.size w3 w3.drew := belDrew (Below.refl w3.heap.size w3)
            have HBd := Lib.hid (belStep HB3.out kd)
            have CP := Lib.hid (ck_Part w.heap.size N M [N] [] c4 (verF v Z) w3.drew v (HD3.out.later kd) (Blk.later HS3.out kd) (fun b hb => by simp at hb; subst hb; exact Nat.lt_of_lt_of_le hNl kd.size) HBd.out.size List.mem_cons_self hN (fun b hb => absurd hb List.not_mem_nil) List.not_mem_nil (by omega) x.ba x.Z.length x.bc x.Z (HG2.out.1.later HBd.out) (by omega) (by omega) x.s ⟨hs1, hs2⟩ (clampN x.s) rfl)
            rw [hf] at CP
            clear hf kd
            obtain ⟨j, hj⟩ : ∃ j, clampN x.s = j := ⟨_, rfl⟩
            rw [hj] at CP
            have hj4 : (j = 4 ↔ 4 ≤ x.s) ∧ (j = 3 ↔ x.s = 3) ∧ j ≤ 4 := by unfold clampN at hj; omega
            clear hj
            have d0 := c0 w3.drew HBd.out
            have d1 := c1 w3.drew HBd.out
            refine wp_region_held_drew (S := (fun w' => w'.cell? ⟨bc, oc + k * 3, none⟩ = some (.slice x.ba x.Z.length x.bc) ∧ w'.cell? ⟨bc, oc + k * 3 + 1, none⟩ = some (.int .i64 x.s))) (by kernel_rfl) (by exact ⟨c0 _ (by first | assumption | exact HBd.out), c1 _ (by first | assumption | exact HBd.out)⟩) (fun hHeld => ?_)
            refine wpAnyH_take (i := 0) (oi := ?oi_1) (v := ?v_1) ?hi_1 (by kernel_rfl) ?hf_1 ?hr_1 ?hQ_1 (Or.inl ⟨?hw_1, ?hy_1⟩) (by assumption) ?rest_1
            case hi_1 => ((simp only [List.getElem?_toArray, List.getElem?_cons_succ, List.getElem?_cons_zero]); rfl)
            case hf_1 => kernel_rfl
            case hr_1 => kernel_rfl
            case hQ_1 => exact fun _ _ _ h => h
            case hw_1 => rfl
            case hy_1 => ((intro w hSw; (try dsimp only at hSw); go_simp); all_goals (with_reducible rfl))
            try simp only [Act.put, List.setIfInBounds_toArray, List.set_cons_zero, List.set_cons_succ]
            refine wpAnyH_take (i := 1) (oi := ?oi_2) (v := ?v_2) ?hi_2 (by kernel_rfl) ?hf_2 ?hr_2 ?hQ_2 (Or.inl ⟨?hw_2, ?hy_2⟩) (by assumption) ?rest_2
            case hi_2 => ((simp only [List.getElem?_toArray, List.getElem?_cons_succ, List.getElem?_cons_zero]); rfl)
            case hf_2 => kernel_rfl
            case hr_2 => kernel_rfl
            case hQ_2 => exact fun _ _ _ h => h
            case hw_2 => rfl
            case hy_2 => ((intro w hSw; (try dsimp only at hSw); go_simp); all_goals (with_reducible rfl))
            try simp only [Act.put, List.setIfInBounds_toArray, List.set_cons_zero, List.set_cons_succ]
            refine wpAnyH_take (i := 2) (oi := ?oi_3) (v := ?v_3) ?hi_3 (by kernel_rfl) ?hf_3 ?hr_3 ?hQ_3 (Or.inl ⟨?hw_3, ?hy_3⟩) (by assumption) ?rest_3
            case hi_3 => ((simp only [List.getElem?_toArray, List.getElem?_cons_succ, List.getElem?_cons_zero]); rfl)
            case hf_3 => kernel_rfl
            case hr_3 => kernel_rfl
            case hQ_3 => exact fun _ _ _ h => h
            case hw_3 => rfl
            case hy_3 => ((intro w hSw; (try dsimp only at hSw); go_simp); all_goals (with_reducible rfl))
            try simp only [Act.put, List.setIfInBounds_toArray, List.set_cons_zero, List.set_cons_succ]
            refine wpAnyH_take (i := 3) (oi := ?oi_4) (v := ?v_4) ?hi_4 (by kernel_rfl) ?hf_4 ?hr_4 ?hQ_4 (Or.inl ⟨?hw_4, ?hy_4⟩) (by assumption) ?rest_4
            case hi_4 => ((simp only [List.getElem?_toArray, List.getElem?_cons_succ, List.getElem?_cons_zero]); rfl)
            case hf_4 => kernel_rfl
            case hr_4 => kernel_rfl
            case hQ_4 => exact fun _ _ _ h => h
            case hw_4 => rfl
            case hy_4 => ((intro w hSw; (try dsimp only at hSw); go_simp); all_goals (with_reducible rfl))
            try simp only [Act.put, List.setIfInBounds_toArray, List.set_cons_zero, List.set_cons_succ]
            refine wpAnyH_take (i := 4) (oi := ?oi_5) (v := ?v_5) ?hi_5 (by kernel_rfl) ?hf_5 ?hr_5 ?hQ_5 (Or.inl ⟨?hw_5, ?hy_5⟩) (by assumption) ?rest_5
            case hi_5 => ((simp only [List.getElem?_toArray, List.getElem?_cons_succ, List.getElem?_cons_zero]); rfl)
            case hf_5 => kernel_rfl
            case hr_5 => kernel_rfl
            case hQ_5 => exact fun _ _ _ h => h
            case hw_5 => rfl
            case hy_5 => ((intro w hSw; (try dsimp only at hSw); go_simp); all_goals (with_reducible rfl))
            try simp only [Act.put, List.setIfInBounds_toArray, List.set_cons_zero, List.set_cons_succ]
            refine wpAnyH_take (i := 5) (oi := ?oi_6) (v := ?v_6) ?hi_6 (by kernel_rfl) ?hf_6 ?hr_6 ?hQ_6 (Or.inl ⟨?hw_6, ?hy_6⟩) (by assumption) ?rest_6
            case hi_6 => ((simp only [List.getElem?_toArray, List.getElem?_cons_succ, List.getElem?_cons_zero]); rfl)
            case hf_6 => kernel_rfl
            case hr_6 => kernel_rfl
            case hQ_6 => exact fun _ _ _ h => h
            case hw_6 => rfl
            case hy_6 => ((intro w hSw; (try dsimp only at hSw); go_simp); all_goals (with_reducible rfl))
            try simp only [Act.put, List.setIfInBounds_toArray, List.set_cons_zero, List.set_cons_succ]
            refine wpAnyH_take (i := 6) (oi := ?oi_7) (v := ?v_7) ?hi_7 (by kernel_rfl) ?hf_7 ?hr_7 ?hQ_7 (Or.inl ⟨?hw_7, ?hy_7⟩) (by assumption) ?rest_7
            case hi_7 => ((simp only [List.getElem?_toArray, List.getElem?_cons_succ, List.getElem?_cons_zero]); rfl)
            case hf_7 => kernel_rfl
            case hr_7 => kernel_rfl
            case hQ_7 => exact fun _ _ _ h => h
            case hw_7 => rfl
            case hy_7 => ((intro w hSw; (try dsimp only at hSw); go_simp); all_goals (with_reducible rfl))
            try simp only [Act.put, List.setIfInBounds_toArray, List.set_cons_zero, List.set_cons_succ]
            refine wpAnyH_take (i := 7) (oi := ?oi_8) (v := ?v_8) ?hi_8 (by kernel_rfl) ?hf_8 ?hr_8 ?hQ_8 (Or.inl ⟨?hw_8, ?hy_8⟩) (by assumption) ?rest_8
            case hi_8 => ((simp only [List.getElem?_toArray, List.getElem?_cons_succ, List.getElem?_cons_zero]); rfl)
            case hf_8 => kernel_rfl
            case hr_8 => kernel_rfl
            case hQ_8 => exact fun _ _ _ h => h
            case hw_8 => rfl
            case hy_8 => ((intro w hSw; (try dsimp only at hSw); go_simp); all_goals (with_reducible rfl))
            try simp only [Act.put, List.setIfInBounds_toArray, List.set_cons_zero, List.set_cons_succ]
            refine wpAnyH_take (i := 8) (oi := ?oi_9) (v := ?v_9) ?hi_9 (by kernel_rfl) ?hf_9 ?hr_9 ?hQ_9 (Or.inl ⟨?hw_9, ?hy_9⟩) (by assumption) ?rest_9
            case hi_9 => ((simp only [List.getElem?_toArray, List.getElem?_cons_succ, List.getElem?_cons_zero]); rfl)
            case hf_9 => kernel_rfl
            case hr_9 => kernel_rfl
            case hQ_9 => exact fun _ _ _ h => h
            case hw_9 => rfl
            case hy_9 => ((intro w hSw; (try dsimp only at hSw); go_simp); all_goals (with_reducible rfl))
            try simp only [Act.put, List.setIfInBounds_toArray, List.set_cons_zero, List.set_cons_succ]
            refine wpAnyH_take (i := 9) (oi := ?oi_10) (v := ?v_10) ?hi_10 (by kernel_rfl) ?hf_10 ?hr_10 ?hQ_10 (Or.inl ⟨?hw_10, ?hy_10⟩) (by assumption) ?rest_10
            case hi_10 => ((simp only [List.getElem?_toArray, List.getElem?_cons_succ, List.getElem?_cons_zero]); rfl)
            case hf_10 => kernel_rfl
            case hr_10 => kernel_rfl
            case hQ_10 => exact fun _ _ _ h => h
            case hw_10 => rfl
            case hy_10 => ((intro w hSw; (try dsimp only at hSw); go_simp); all_goals (with_reducible rfl))
            try simp only [Act.put, List.setIfInBounds_toArray, List.set_cons_zero, List.set_cons_succ]
            refine wpAnyH_take (i := 10) (oi := ?oi_11) (v := ?v_11) ?hi_11 (by kernel_rfl) ?hf_11 ?hr_11 ?hQ_11 (Or.inl ⟨?hw_11, ?hy_11⟩) (by assumption) ?rest_11
            case hi_11 => ((simp only [List.getElem?_toArray, List.getElem?_cons_succ, List.getElem?_cons_zero]); rfl)
            case hf_11 => kernel_rfl
            case hr_11 => kernel_rfl
            case hQ_11 => exact fun _ _ _ h => h
            case hw_11 => rfl
            case hy_11 => ((intro w hSw; (try dsimp only at hSw); go_simp); all_goals (with_reducible rfl))
            try simp only [Act.put, List.setIfInBounds_toArray, List.set_cons_zero, List.set_cons_succ]
            refine wpAnyH_take (i := 11) (oi := ?oi_12) (v := ?v_12) ?hi_12 (by kernel_rfl) ?hf_12 ?hr_12 ?hQ_12 (Or.inl ⟨?hw_12, ?hy_12⟩) (by assumption) ?rest_12
            case hi_12 => ((simp only [List.getElem?_toArray, List.getElem?_cons_succ, List.getElem?_cons_zero]); rfl)
            case hf_12 => kernel_rfl
            case hr_12 => kernel_rfl
            case hQ_12 => exact fun _ _ _ h => h
            case hw_12 => rfl
            case hy_12 => ((intro w hSw; (try dsimp only at hSw); go_simp); all_goals (with_reducible rfl))
            try simp only [Act.put, List.setIfInBounds_toArray, List.set_cons_zero, List.set_cons_succ]
            refine wpAnyH_take (i := 12) (oi := ?oi_13) (v := ?v_13) ?hi_13 (by kernel_rfl) ?hf_13 ?hr_13 ?hQ_13 (Or.inl ⟨?hw_13, ?hy_13⟩) (by assumption) ?rest_13
            case hi_13 => ((simp only [List.getElem?_toArray, List.getElem?_cons_succ, List.getElem?_cons_zero]); rfl)
            case hf_13 => kernel_rfl
            case hr_13 => kernel_rfl
            case hQ_13 => exact fun _ _ _ h => h
            case hw_13 => rfl
            case hy_13 => ((intro w hSw; (try dsimp only at hSw); go_simp); all_goals (with_reducible rfl))
            try simp only [Act.put, List.setIfInBounds_toArray, List.set_cons_zero, List.set_cons_succ]
            refine wpAnyH_take (i := 13) (oi := ?oi_14) (v := ?v_14) ?hi_14 (by kernel_rfl) ?hf_14 ?hr_14 ?hQ_14 (Or.inl ⟨?hw_14, ?hy_14⟩) (by assumption) ?rest_14
            case hi_14 => ((simp only [List.getElem?_toArray, List.getElem?_cons_succ, List.getElem?_cons_zero]); rfl)
            case hf_14 => kernel_rfl
            case hr_14 => kernel_rfl
            case hQ_14 => exact fun _ _ _ h => h
            case hw_14 => rfl
            case hy_14 => ((intro w hSw; (try dsimp only at hSw); go_simp); all_goals (with_reducible rfl))
            try simp only [Act.put, List.setIfInBounds_toArray, List.set_cons_zero, List.set_cons_succ]
            refine wpAnyH_ready (rs := [14]) (by kernel_rfl) (by simp) ?_
            refine AllReadyH.cons (o := ?o1_15) ?hi_15 (fun K hK => ?rest_15) AllReadyH.nil
            case hi_15 => ((simp only [List.getElem?_toArray, List.getElem?_cons_succ, List.getElem?_cons_zero]); rfl)
            go_simp
            (go_at_call 19; (with_reducible refine (CP.out).mono ?_); rintro e w4 ⟨rfl, hd_, -, hb_, -⟩; have HD4 := Lib.hid hd_; have hbel4 := HBd.out.trans hb_; have hs34_ := hb_.size; clear hd_ hb_)
            try go_simp
            refine hK.out _ _ (by exact ⟨c0 _ (by first | assumption | exact HBd.out), c1 _ (by first | assumption | exact HBd.out)⟩) (fun hHeld => ?_)
            clear hK K
            try simp only [Act.put, List.setIfInBounds_toArray, List.set_cons_zero, List.set_cons_succ]
            refine wpAnyH_ready (rs := [15]) (by kernel_rfl) (by simp) ?_
            refine AllReadyH.cons (o := ?o1_16) ?hi_16 (fun K hK => ?rest_16) AllReadyH.nil
            case hi_16 => ((simp only [List.getElem?_toArray, List.getElem?_cons_succ, List.getElem?_cons_zero]); rfl)
            go_simp
            refine hK.out _ _ (by exact ⟨c0 _ (by first | assumption | exact HBd.out), c1 _ (by first | assumption | exact HBd.out)⟩) (fun hHeld => ?_)
            clear hK K
            try simp only [Act.put, List.setIfInBounds_toArray, List.set_cons_zero, List.set_cons_succ]
            refine wpAnyH_ready (rs := [16]) (by kernel_rfl) (by simp) ?_
            refine AllReadyH.cons (o := ?o1_17) ?hi_17 (fun K hK => ?rest_17) AllReadyH.nil
            case hi_17 => ((simp only [List.getElem?_toArray, List.getElem?_cons_succ, List.getElem?_cons_zero]); rfl)
            go_simp
            refine hK.out _ _ (by exact ⟨c0 _ (by first | assumption | exact HBd.out), c1 _ (by first | assumption | exact HBd.out)⟩) (fun hHeld => ?_)
            clear hK K
            try simp only [Act.put, List.setIfInBounds_toArray, List.set_cons_zero, List.set_cons_succ]
            refine wpAnyH_done (by kernel_rfl) ?_ _
            have hs34 : w3.heap.size ≤ w4.heap.size := hs34_
            have HB4 := Lib.hid hbel4
            clear CP HD3 HS3 HB3 HBd hbel d0 d1 hbel4
            go_upto_region 16 with fail
            obtain ⟨cz, tz, hcz, hcr⟩ := crash_part c4 (verF v Z) f j x.K
            have CC := Lib.hid (dl_Crash w.heap.size M [N] _ w4 HD4.out (fun b hb => by simp at hb; subst hb; exact Nat.lt_of_lt_of_le hNl hs34) HB4.out.size (Nat.le_trans (part_cap c4 _ f j) (by omega)) x.ka x.K.length x.kc x.K (HG2.out.2.2.later HB4.out))
            rw [hcr] at CC
            clear hcr
            have hbel := HB4.out
            go_upto_region 17 with (go_at_call 20; (with_reducible refine (CC.out).mono ?_); rintro e w5 ⟨rfl, hd_, hb_, hf_⟩; have HD5 := Lib.hid hd_; have HB5 := Lib.hid (HB4.out.trans hb_); have hs45 : w4.heap.size ≤ w5.heap.size := hf_.size; clear hd_ hb_ hf_ CC HD4 HB4)
            clear hbel
            have hbel := HB5.out
            have hNl5 : N < w5.heap.size := by omega
            by_cases hs4 : 4 ≤ x.s
            · have d4 : decide ((4 : Int) ≤ x.s) = true := decide_eq_true hs4
              have hfr : 4 ≤ j ∨ (j = 3 ∧ x.K.headD 0 ≠ 0) := .inl (by omega)
              have hk4 : keptF (verF v Z) f j x.K = verF (v + 1) x.Z := by unfold keptF verF; rw [if_pos hfr, if_neg (by omega), HF.out]
              rw [hk4] at HD5
              have C6 := Lib.hid (ck_OpenV w.heap.size M [N] cz tz w5 (v + 1) x.Z HD5.out (fun b hb => by simp at hb; subst hb; exact hNl5) HB5.out.size (by omega) (by omega) (by omega) (fun q => by omega))
              rw [if_neg (show ¬ v + 1 = 0 by omega)] at C6
              have hv1 : (0 : Int) < (v : Int) + 1 := by omega
              have hv2 : decide ((0 : Int) < (v : Int) + 1) = true := decide_eq_true hv1
              go_upto_region 21 with (go_at_call 11; (with_reducible refine (C6.out).mono ?_); rintro e w6 ⟨N2, a6, c6, rfl, hi_, hs_, -, ⟨c7, hc7, hd_⟩, hb_⟩; have HI6 := Lib.hid hi_; have HS6 := Lib.hid (show StA w6 N2 M ((v : Int) + 1) from hs_); have HD6 := Lib.hid hd_; have HB6 := Lib.hid (HB5.out.trans hb_); clear hi_ hs_ hd_ hb_ C6 HD5)
              have CV := Lib.hid (ck_Vn w6 N2 M _ HS6.out)
              have CSm := Lib.hid (same_self a6 x.Z.length c6 x.Z x.ba x.bc w6 HI6.out (HG2.out.1.later HB6.out))
              go_wp2_with (first | (go_at_call 13; (with_reducible refine (CV.out).mono ?_); rintro e wx ⟨rfl, hz9⟩; have hz8 := hz9.symm; subst hz8) | (go_at_call 15; (with_reducible refine (CSm.out).mono ?_); rintro e wx ⟨rfl, hz9⟩; subst hz9))
              go_roundw
              case rel => exact ⟨k + 1, v + 1, c7, x.ba, x.bc, x.Z, by omega, by push_cast; rfl, by first | rfl | (push_cast; rfl), by omega, rfl, HG2.out.1, by omega, HD6.out.more (fun b hb => absurd hb List.not_mem_nil), fun q => by omega, by omega, HB6.out⟩
              case measure => simp [intOf] <;> omega
            · have d4 : decide ((4 : Int) ≤ x.s) = false := decide_eq_false hs4
              by_cases hs3 : x.s = 3
              · have d3 : (x.s == 3) = true := by rw [hs3]; rfl
                by_cases hK : 0 < x.K.length
                · have dK : decide ((0 : Int) < (x.K.length : Int)) = true := decide_eq_true (by omega)
                  have iK : (0 : Int) < (x.K.length : Int) := by omega
                  obtain ⟨kb, ko, ek, _, hkc⟩ := HG2.out.2.2.opened hK
                  have k0 := keep (hkc 0 hK)
                  rw [Nat.add_zero] at k0
                  have hel : el x.K 0 = x.K.headD 0 := by cases x.K <;> rfl
                  rw [hel] at k0
                  simp only [ek] at c2
                  clear hkc hel
                  obtain ⟨kz, hkz⟩ : ∃ z, x.K.headD 0 = z := ⟨_, rfl⟩
                  rw [hkz] at k0
                  by_cases hz : kz = 0
                  · subst hz
                    have hfr : ¬ (4 ≤ j ∨ (j = 3 ∧ x.K.headD 0 ≠ 0)) := fun q => q.elim (fun z => by omega) (fun z => z.2 hkz)
                    have hk4 : keptF (verF v Z) f j x.K = verF v Z := by unfold keptF; rw [if_neg hfr]
                    rw [hk4] at HD5
                    have C6 := Lib.hid (ck_OpenV w.heap.size M [N] cz tz w5 v Z HD5.out (fun b hb => by simp at hb; subst hb; exact hNl5) HB5.out.size (by omega) (by omega) (by omega) H0.out)
                    by_cases hv0 : v = 0
                    · subst hv0
                      rw [if_pos rfl] at C6
                      obtain rfl := H0.out rfl
                      go_upto_region 21 with (go_at_call 11; (with_reducible refine (C6.out).mono ?_); rintro e w6 ⟨N2, a6, c6, rfl, hi_, hs_, -, ⟨c7, hc7, hd_⟩, hb_⟩; have HI6 := Lib.hid hi_; have HS6 := Lib.hid (show StA w6 N2 M ((0 : Nat) : Int) from hs_); have HD6 := Lib.hid hd_; have HB6 := Lib.hid (HB5.out.trans hb_); clear hi_ hs_ hd_ hb_ C6 HD5)
                      have CV := Lib.hid (ck_Vn w6 N2 M _ HS6.out)
                      have CSm := Lib.hid (same_self a6 0 c6 [] ya yc w6 HI6.out (HZ.out.later HB6.out))
                      go_wp2_with (first | (go_at_call 13; (with_reducible refine (CV.out).mono ?_); rintro e wx ⟨rfl, hz9⟩; have hz8 := hz9.symm; subst hz8) | (go_at_call 15; (with_reducible refine (CSm.out).mono ?_); rintro e wx ⟨rfl, hz9⟩; subst hz9))
                      go_roundw
                      case rel => exact ⟨k + 1, 0, c7, ya, yc, [], by omega, by push_cast; rfl, by first | rfl | (push_cast; rfl), by omega, rfl, HZ.out, by omega, HD6.out.more (fun b hb => absurd hb List.not_mem_nil), fun _ => rfl, by omega, HB6.out⟩
                      case measure => simp [intOf] <;> omega
                    · rw [if_neg hv0] at C6
                      have hv1 : (0 : Int) < (v : Int) := by omega
                      have hv2 : decide ((0 : Int) < (v : Int)) = true := decide_eq_true hv1
                      go_upto_region 21 with (go_at_call 11; (with_reducible refine (C6.out).mono ?_); rintro e w6 ⟨N2, a6, c6, rfl, hi_, hs_, -, ⟨c7, hc7, hd_⟩, hb_⟩; have HI6 := Lib.hid hi_; have HS6 := Lib.hid (show StA w6 N2 M (v : Int) from hs_); have HD6 := Lib.hid hd_; have HB6 := Lib.hid (HB5.out.trans hb_); clear hi_ hs_ hd_ hb_ C6 HD5)
                      have CV := Lib.hid (ck_Vn w6 N2 M _ HS6.out)
                      have CSm := Lib.hid (same_self a6 Z.length c6 Z ya yc w6 HI6.out (HZ.out.later HB6.out))
                      go_wp2_with (first | (go_at_call 13; (with_reducible refine (CV.out).mono ?_); rintro e wx ⟨rfl, hz9⟩; have hz8 := hz9.symm; subst hz8) | (go_at_call 15; (with_reducible refine (CSm.out).mono ?_); rintro e wx ⟨rfl, hz9⟩; subst hz9))
                      go_roundw
                      case rel => exact ⟨k + 1, v, c7, ya, yc, Z, by omega, by push_cast; rfl, by first | rfl | (push_cast; rfl), by omega, rfl, HZ.out, by omega, HD6.out.more (fun b hb => absurd hb List.not_mem_nil), H0.out, by omega, HB6.out⟩
                      case measure => simp [intOf] <;> omega
                  · have dz : (kz == 0) = false := by rw [beq_eq_false_iff_ne]; exact hz
                    have hfr : 4 ≤ j ∨ (j = 3 ∧ x.K.headD 0 ≠ 0) := .inr ⟨by omega, by rw [hkz]; exact hz⟩
                    have hk4 : keptF (verF v Z) f j x.K = verF (v + 1) x.Z := by unfold keptF verF; rw [if_pos hfr, if_neg (by omega), HF.out]
                    rw [hk4] at HD5
                    have C6 := Lib.hid (ck_OpenV w.heap.size M [N] cz tz w5 (v + 1) x.Z HD5.out (fun b hb => by simp at hb; subst hb; exact hNl5) HB5.out.size (by omega) (by omega) (by omega) (fun q => by omega))
                    rw [if_neg (show ¬ v + 1 = 0 by omega)] at C6
                    have hv1 : (0 : Int) < (v : Int) + 1 := by omega
                    have hv2 : decide ((0 : Int) < (v : Int) + 1) = true := decide_eq_true hv1
                    go_upto_region 21 with (go_at_call 11; (with_reducible refine (C6.out).mono ?_); rintro e w6 ⟨N2, a6, c6, rfl, hi_, hs_, -, ⟨c7, hc7, hd_⟩, hb_⟩; have HI6 := Lib.hid hi_; have HS6 := Lib.hid (show StA w6 N2 M ((v : Int) + 1) from hs_); have HD6 := Lib.hid hd_; have HB6 := Lib.hid (HB5.out.trans hb_); clear hi_ hs_ hd_ hb_ C6 HD5)
                    have CV := Lib.hid (ck_Vn w6 N2 M _ HS6.out)
                    have CSm := Lib.hid (same_self a6 x.Z.length c6 x.Z x.ba x.bc w6 HI6.out (HG2.out.1.later HB6.out))
                    go_wp2_with (first | (go_at_call 13; (with_reducible refine (CV.out).mono ?_); rintro e wx ⟨rfl, hz9⟩; have hz8 := hz9.symm; subst hz8) | (go_at_call 15; (with_reducible refine (CSm.out).mono ?_); rintro e wx ⟨rfl, hz9⟩; subst hz9))
                    go_roundw
                    case rel => exact ⟨k + 1, v + 1, c7, x.ba, x.bc, x.Z, by omega, by push_cast; rfl, by first | rfl | (push_cast; rfl), by omega, rfl, HG2.out.1, by omega, HD6.out.more (fun b hb => absurd hb List.not_mem_nil), fun q => by omega, by omega, HB6.out⟩
                    case measure => simp [intOf] <;> omega
                · have dK : decide ((0 : Int) < (x.K.length : Int)) = false := decide_eq_false (by omega)
                  have iK : ¬ (0 : Int) < (x.K.length : Int) := by omega
                  have hKn : x.K = [] := List.eq_nil_of_length_eq_zero (by omega)
                  have hfr : ¬ (4 ≤ j ∨ (j = 3 ∧ x.K.headD 0 ≠ 0)) := fun q => q.elim (fun z => by omega) (fun z => z.2 (by rw [hKn]; rfl))
                  have hk4 : keptF (verF v Z) f j x.K = verF v Z := by unfold keptF; rw [if_neg hfr]
                  rw [hk4] at HD5
                  have C6 := Lib.hid (ck_OpenV w.heap.size M [N] cz tz w5 v Z HD5.out (fun b hb => by simp at hb; subst hb; exact hNl5) HB5.out.size (by omega) (by omega) (by omega) H0.out)
                  by_cases hv0 : v = 0
                  · subst hv0
                    rw [if_pos rfl] at C6
                    obtain rfl := H0.out rfl
                    go_upto_region 21 with (go_at_call 11; (with_reducible refine (C6.out).mono ?_); rintro e w6 ⟨N2, a6, c6, rfl, hi_, hs_, -, ⟨c7, hc7, hd_⟩, hb_⟩; have HI6 := Lib.hid hi_; have HS6 := Lib.hid (show StA w6 N2 M ((0 : Nat) : Int) from hs_); have HD6 := Lib.hid hd_; have HB6 := Lib.hid (HB5.out.trans hb_); clear hi_ hs_ hd_ hb_ C6 HD5)
                    have CV := Lib.hid (ck_Vn w6 N2 M _ HS6.out)
                    have CSm := Lib.hid (same_self a6 0 c6 [] ya yc w6 HI6.out (HZ.out.later HB6.out))
                    go_wp2_with (first | (go_at_call 13; (with_reducible refine (CV.out).mono ?_); rintro e wx ⟨rfl, hz9⟩; have hz8 := hz9.symm; subst hz8) | (go_at_call 15; (with_reducible refine (CSm.out).mono ?_); rintro e wx ⟨rfl, hz9⟩; subst hz9))
                    go_roundw
                    case rel => exact ⟨k + 1, 0, c7, ya, yc, [], by omega, by push_cast; rfl, by first | rfl | (push_cast; rfl), by omega, rfl, HZ.out, by omega, HD6.out.more (fun b hb => absurd hb List.not_mem_nil), fun _ => rfl, by omega, HB6.out⟩
                    case measure => simp [intOf] <;> omega
                  · rw [if_neg hv0] at C6
                    have hv1 : (0 : Int) < (v : Int) := by omega
                    have hv2 : decide ((0 : Int) < (v : Int)) = true := decide_eq_true hv1
                    go_upto_region 21 with (go_at_call 11; (with_reducible refine (C6.out).mono ?_); rintro e w6 ⟨N2, a6, c6, rfl, hi_, hs_, -, ⟨c7, hc7, hd_⟩, hb_⟩; have HI6 := Lib.hid hi_; have HS6 := Lib.hid (show StA w6 N2 M (v : Int) from hs_); have HD6 := Lib.hid hd_; have HB6 := Lib.hid (HB5.out.trans hb_); clear hi_ hs_ hd_ hb_ C6 HD5)
                    have CV := Lib.hid (ck_Vn w6 N2 M _ HS6.out)
                    have CSm := Lib.hid (same_self a6 Z.length c6 Z ya yc w6 HI6.out (HZ.out.later HB6.out))
                    go_wp2_with (first | (go_at_call 13; (with_reducible refine (CV.out).mono ?_); rintro e wx ⟨rfl, hz9⟩; have hz8 := hz9.symm; subst hz8) | (go_at_call 15; (with_reducible refine (CSm.out).mono ?_); rintro e wx ⟨rfl, hz9⟩; subst hz9))
                    go_roundw
                    case rel => exact ⟨k + 1, v, c7, ya, yc, Z, by omega, by push_cast; rfl, by first | rfl | (push_cast; rfl), by omega, rfl, HZ.out, by omega, HD6.out.more (fun b hb => absurd hb List.not_mem_nil), H0.out, by omega, HB6.out⟩
                    case measure => simp [intOf] <;> omega
              · have d3 : (x.s == 3) = false := by rw [beq_eq_false_iff_ne]; exact hs3
                have hfr : ¬ (4 ≤ j ∨ (j = 3 ∧ x.K.headD 0 ≠ 0)) := fun q => q.elim (fun z => by omega) (fun z => by omega)
                have hk4 : keptF (verF v Z) f j x.K = verF v Z := by unfold keptF; rw [if_neg hfr]
                rw [hk4] at HD5
                have C6 := Lib.hid (ck_OpenV w.heap.size M [N] cz tz w5 v Z HD5.out (fun b hb => by simp at hb; subst hb; exact hNl5) HB5.out.size (by omega) (by omega) (by omega) H0.out)
                by_cases hv0 : v = 0
                · subst hv0
                  rw [if_pos rfl] at C6
                  obtain rfl := H0.out rfl
                  go_upto_region 21 with (go_at_call 11; (with_reducible refine (C6.out).mono ?_); rintro e w6 ⟨N2, a6, c6, rfl, hi_, hs_, -, ⟨c7, hc7, hd_⟩, hb_⟩; have HI6 := Lib.hid hi_; have HS6 := Lib.hid (show StA w6 N2 M ((0 : Nat) : Int) from hs_); have HD6 := Lib.hid hd_; have HB6 := Lib.hid (HB5.out.trans hb_); clear hi_ hs_ hd_ hb_ C6 HD5)
                  have CV := Lib.hid (ck_Vn w6 N2 M _ HS6.out)
                  have CSm := Lib.hid (same_self a6 0 c6 [] ya yc w6 HI6.out (HZ.out.later HB6.out))
                  go_wp2_with (first | (go_at_call 13; (with_reducible refine (CV.out).mono ?_); rintro e wx ⟨rfl, hz9⟩; have hz8 := hz9.symm; subst hz8) | (go_at_call 15; (with_reducible refine (CSm.out).mono ?_); rintro e wx ⟨rfl, hz9⟩; subst hz9))
                  go_roundw
                  case rel => exact ⟨k + 1, 0, c7, ya, yc, [], by omega, by push_cast; rfl, by first | rfl | (push_cast; rfl), by omega, rfl, HZ.out, by omega, HD6.out.more (fun b hb => absurd hb List.not_mem_nil), fun _ => rfl, by omega, HB6.out⟩
                  case measure => simp [intOf] <;> omega
                · rw [if_neg hv0] at C6
                  have hv1 : (0 : Int) < (v : Int) := by omega
                  have hv2 : decide ((0 : Int) < (v : Int)) = true := decide_eq_true hv1
                  go_upto_region 21 with (go_at_call 11; (with_reducible refine (C6.out).mono ?_); rintro e w6 ⟨N2, a6, c6, rfl, hi_, hs_, -, ⟨c7, hc7, hd_⟩, hb_⟩; have HI6 := Lib.hid hi_; have HS6 := Lib.hid (show StA w6 N2 M (v : Int) from hs_); have HD6 := Lib.hid hd_; have HB6 := Lib.hid (HB5.out.trans hb_); clear hi_ hs_ hd_ hb_ C6 HD5)
                  have CV := Lib.hid (ck_Vn w6 N2 M _ HS6.out)
                  have CSm := Lib.hid (same_self a6 Z.length c6 Z ya yc w6 HI6.out (HZ.out.later HB6.out))
                  go_wp2_with (first | (go_at_call 13; (with_reducible refine (CV.out).mono ?_); rintro e wx ⟨rfl, hz9⟩; have hz8 := hz9.symm; subst hz8) | (go_at_call 15; (with_reducible refine (CSm.out).mono ?_); rintro e wx ⟨rfl, hz9⟩; subst hz9))
                  go_roundw
                  case rel => exact ⟨k + 1, v, c7, ya, yc, Z, by omega, by push_cast; rfl, by first | rfl | (push_cast; rfl), by omega, rfl, HZ.out, by omega, HD6.out.more (fun b hb => absurd hb List.not_mem_nil), H0.out, by omega, HB6.out⟩
                  case measure => simp [intOf] <;> omega
      · obtain rfl : k = L.length := by omega
        go_wp2
        go_ret
        exact ⟨rfl, HB.out⟩

set_option maxRecDepth 100000 in
theorem lifted (os : Os) (started : os.Started) (H : Type) (enc : TypeId × Value → H) :
    ReturnsInHanded {} Try.checked os 7 .any (Rows.ckptChainSpec.pre6 enc Try.prog Try.f7 Rows.ckptChainRow.domain false) (Rows.ckptChainSpec.post enc Try.prog Try.f7 false true false false) := by
  refine returnsInHanded_of_change (C := Try.checked) own started (by kernel_rfl) Try.func7
    (ChangeSpec.witness6 (enc := enc) (C := Try.checked) false ⟨#[], #[.slice none 0 0], []⟩ 8 (by kernel_rfl) (by kernel_rfl) (by kernel_rfl) (by kernel_rfl)) ?_
  intro W base args ds gs before hval0 hW hcnd _
  have hval : ∀ (j : Nat) t v, Try.f7.params[j]? = some t → args[j]? = some v → Value.okWide Try.prog W .any base t v := hval0
  have hW' := hW
  obtain ⟨p, q, hA0, hV, rfl, hfz, hnd⟩ := hW
  have hA : DataW.TrodAll enc Try.prog W 0 (fun _ => true) true Try.f7.params.toList args.toList ds p := hA0
  rw [Try.params7] at hA hval
  obtain ⟨v0, vs0, d0, ds0, p0, q0, hargs, rfl, rfl, h0, r0⟩ := trodAll_cons hA
  obtain ⟨rfl, rfl, rfl⟩ := trodAll_nil r0
  obtain rfl : args = #[v0] := by cases args; simp_all
  obtain ⟨rfl, rfl⟩ := trodVars_none hV
  have k0 := h0
  have lt0 : ∀ x ∈ p0, x.block < W.heap.size := by obtain ⟨m, hm⟩ := k0; exact DataW.trod_lt m _ _ _ hm
  have o0 : Value.okWide Try.prog W .any base 54 v0 := hval 0 54 v0 rfl rfl
  obtain ⟨xa0, xn0, xc0, xl0, rfl, fl0, fo0, fr0⟩ := open_tries o0 h0
  clear hA0 hval0
  refine (walk xa0 xn0 xc0 xl0 W fl0 fo0 fr0).mono fun e W' ⟨he, bel⟩ => ?_
  subst he
  exact ⟨_, rfl, _, _, _, [], _, [], hW', trodAll_mk1 (shut_bool Try.underlying4 _), (trodAll_cons_mk (Below.trod laidOut (by kernel_rfl) (of_decide_eq_true (by kernel_rfl)) k0 bel lt0) trodAll_mk0), rfl, bel.frame _, fun h => by cases h⟩

theorem over : Rows.ckptChainRow.holds Try.pinned (OpenSpec.ofChange Rows.ckptChainSpec) :=
  OpenClaim.holds_of_wide 7 Try.f7 rfl rfl rfl rfl rfl rfl rfl ⟨rfl, rfl, rfl, rfl, rfl⟩ rfl rfl rfl rfl rfl (by kernel_rfl) Try.func7 (by kernel_rfl)
    (of_decide_eq_true (by kernel_rfl)) (by unfold Func.isWrapper; first | (rw [if_pos (by decide +kernel)]; kernel_rfl) | (rw [if_neg (by decide +kernel)]; exact ⟨rfl, rfl⟩))
    (fun os started H enc _ => lifted os started H enc)

/-- The statement. -/
theorem proved : Rows.CkptChainSaid := over
#print axioms proved

end Go.Proofs.Ytcbblgeleboggaa.ckptChain
