/- VictimLess holds for every room, list of pods, what is more, and choice of a part. No conditions. -/
import Derived.Test.YtnnmganjlhojfaaVicWM
namespace Go.Proofs.Ytnnmganjlhojfaa.victimLess
open Go.ChangeShapes Go.WideShapes Go.ChangeAt Go.RowKit
open Go.ChangeMaps (open_string shut_string)
set_option linter.unusedVariables false
set_option linter.unusedSimpArgs false

theorem open_three16 {H : Type} {enc : TypeId × Value → H} {W : World} {v : Value} {b : Nat} {d : DataW H} {p : List MemPlace} (o : Value.okWide Try.prog W .any b 42 v) (h : DataW.Trod enc Try.prog W 0 (fun _ => true) true 42 v d p) :
    ∃ x y z : Int, v = .agg #[.int .u16 x, .int .u16 y, .int .u16 z] ∧ (0 ≤ x ∧ x ≤ 65535) ∧ (0 ≤ y ∧ y ≤ 65535) ∧ (0 ≤ z ∧ z ≤ 65535) := by
  obtain ⟨cs, rfl⟩ := agg_of_array Try.underlying42 o
  have hr := Rd.of h
  rw [agg_cells] at hr
  obtain ⟨hl, hf⟩ := Rd.array Try.underlying42 hr
  rw [show Try.prog.cellsOf 42 = 3 by kernel_rfl] at hl
  obtain ⟨a, b, c, e⟩ := list3 hl
  rw [e] at hf
  have h0 := hf 0 (by omega)
  have h1 := hf 1 (by omega)
  have h2 := hf 2 (by omega)
  simp [show Try.prog.cellsOf 41 = 1 by kernel_rfl] at h0 h1 h2
  obtain ⟨x, e0, w0⟩ := Rd.int Try.underlying41 h0
  obtain ⟨y, e1, w1⟩ := Rd.int Try.underlying41 h1
  obtain ⟨z, e2, w2⟩ := Rd.int Try.underlying41 h2
  obtain rfl := (show a = .int .u16 x by simpa using e0)
  obtain rfl := (show b = .int .u16 y by simpa using e1)
  obtain rfl := (show c = .int .u16 z by simpa using e2)
  exact ⟨x, y, z, by rw [show cs = cs.toList.toArray by simp, e], in16_of_wf w0, in16_of_wf w1, in16_of_wf w2⟩
def pX : PodV := ⟨⟨#[120]⟩, 0, false, 0, 0, 0, 0, 0, 0, ⟨#[120]⟩, 0⟩
theorem pX_ok : pX.ok := by unfold PodV.ok pX InI maxLen; simp; show (1 : Nat) ≤ 9223372036854775807; omega
def wv (r m : Int) : Int := if r < 1000000000 then r + m else r
theorem wv_le (r m : Int) (h : 0 ≤ m) : r ≤ wv r m := by unfold wv; split <;> omega
/-- The wider room, of whose places the first 'k' are done. -/
def wdC (R : Room) (a b c : Int) : Nat → List Value
  | 0 => [.int .i64 R.a, .int .i64 R.b, .int .i64 R.c]
  | 1 => [.int .i64 a, .int .i64 R.b, .int .i64 R.c]
  | 2 => [.int .i64 a, .int .i64 b, .int .i64 R.c]
  | _ => [.int .i64 a, .int .i64 b, .int .i64 c]
theorem wd_same0 {R : Room} {a b c : Int} {w : World} {M : Nat} {T : TypeId} (h : a = R.a) (hb : Blk w M (wdC R a b c 0) T) : Blk w M (wdC R a b c 1) T := by subst h; exact hb
theorem wd_same1 {R : Room} {a b c : Int} {w : World} {M : Nat} {T : TypeId} (h : b = R.b) (hb : Blk w M (wdC R a b c 1) T) : Blk w M (wdC R a b c 2) T := by subst h; exact hb
theorem wd_same2 {R : Room} {a b c : Int} {w : World} {M : Nat} {T : TypeId} (h : c = R.c) (hb : Blk w M (wdC R a b c 2) T) : Blk w M (wdC R a b c 3) T := by subst h; exact hb
theorem nil_fits (R : Room) (v : World) (ha : 0 ≤ R.a) (hb : 0 ≤ R.b) (hc : 0 ≤ R.c) : Calls Try.prog 18 #[.agg #[.int .i64 R.a, .int .i64 R.b, .int .i64 R.c], .slice none 0 0] v fun e w' => e = .returned (.bool true) ∧ Below v.heap.size v w' := by
  have h := vic_Fits R none 0 0 [] v rfl (fun x hx => by cases hx) ⟨rfl, Nat.le_refl _, by unfold maxLen; omega, fun _ => ⟨rfl, rfl⟩, .inl rfl⟩
  rw [show fitsB R [] = true by unfold fitsB fit1 sumF; simp [ha, hb, hc]] at h
  exact h

set_option maxRecDepth 100000 in
set_option maxHeartbeats 16000000 in
theorem walk (R : Room) (a : Option Addr) (len cap : Nat) (L : List PodV) (m0 m1 m2 which : Int) (w : World) (hra : InI R.a) (hrb : InI R.b) (hrc : InI R.c) (hl : L.length = len) (hok : ∀ x ∈ L, x.ok) (hR : Row w a len cap 11 (L.flatMap PodV.cells)) (hm0 : 0 ≤ m0 ∧ m0 ≤ 65535) (hm1b : 0 ≤ m1 ∧ m1 ≤ 65535) (hm2b : 0 ≤ m2 ∧ m2 ≤ 65535) (hwh : 0 ≤ which ∧ which ≤ 18446744073709551615) :
    Calls Try.prog 10 #[.agg #[.int .i64 R.a, .int .i64 R.b, .int .i64 R.c], .slice a len cap, .agg #[.int .u16 m0, .int .u16 m1, .int .u16 m2], .int .u64 which] w fun e w' => e = .returned (.bool true) ∧ Below w.heap.size w w' := by
  have hw : Below w.heap.size w w := Below.refl _ _
  have hbel := hw
  have HR := Lib.hid hR
  have HOK := Lib.hid hok
  have hbd : len ≤ cap ∧ cap ≤ 9223372036854775807 := by obtain ⟨_, h1, h2, _⟩ := hR; unfold maxLen at h2; exact ⟨h1, h2⟩
  obtain ⟨hbd1, hbd2⟩ := hbd
  unfold InI at hra hrb hrc
  have CF := Lib.hid (show ∀ v : World, Below w.heap.size w v → Calls Try.prog 13 #[.agg #[.int .i64 R.a, .int .i64 R.b, .int .i64 R.c], .slice a len cap, .agg #[.string ⟨#[120]⟩, .int .i64 0, .bool false, .int .i64 0, .int .i64 0, .int .i64 0, .int .i64 0, .int .i64 0, .int .i64 0, .string ⟨#[120]⟩, .int .i64 0]] v fun e w' => FitP R L pX v e w' from fun v hv => vref_Fit R pX a len cap L v hl hok (HR.out.later hv) pX_ok)
  have CA := Lib.hid (fun v (hv : Below w.heap.size w v) => vic_Fits R a len cap L v hl hok (HR.out.later hv))
  have CC := Lib.hid (show ∀ v : World, Below w.heap.size w v → Calls Try.prog 18 #[.agg #[.int .i64 (wv R.a m0), .int .i64 (wv R.b m1), .int .i64 (wv R.c m2)], .slice a len cap] v fun e w' => e = .returned (.bool (fitsB ⟨wv R.a m0, wv R.b m1, wv R.c m2⟩ L)) ∧ Below v.heap.size v w' from fun v hv => vic_Fits ⟨wv R.a m0, wv R.b m1, wv R.c m2⟩ a len cap L v hl hok (HR.out.later hv))
  subst hl
  clear hok hR
  go_enter Try.func10, Try.ntmps10
  go_upto_region 1 with fail
  have rm0 : ((w.alloc (.cells #[.int .i64 R.a, .int .i64 R.b, .int .i64 R.c] 22)).alloc (.cells #[.int .u16 m0, .int .u16 m1, .int .u16 m2] 42)).cell? ⟨w.heap.size, 0, none⟩ = some (.int .i64 R.a) := by first | (simp; done) | (rw [World.cell?_alloc_at _ _ _ _ (by simp)]; rfl) | (rw [World.cell?_alloc_past _ _ _ (by simp <;> omega), World.cell?_alloc_at _ _ _ _ (by simp)]; rfl) | (rw [World.cell?_alloc_past _ _ _ (by simp <;> omega), World.cell?_alloc_past _ _ _ (by simp <;> omega), World.cell?_alloc_at _ _ _ _ (by simp)]; rfl)
  have rm1 : ((w.alloc (.cells #[.int .i64 R.a, .int .i64 R.b, .int .i64 R.c] 22)).alloc (.cells #[.int .u16 m0, .int .u16 m1, .int .u16 m2] 42)).cell? ⟨w.heap.size, 1, none⟩ = some (.int .i64 R.b) := by first | (simp; done) | (rw [World.cell?_alloc_at _ _ _ _ (by simp)]; rfl) | (rw [World.cell?_alloc_past _ _ _ (by simp <;> omega), World.cell?_alloc_at _ _ _ _ (by simp)]; rfl) | (rw [World.cell?_alloc_past _ _ _ (by simp <;> omega), World.cell?_alloc_past _ _ _ (by simp <;> omega), World.cell?_alloc_at _ _ _ _ (by simp)]; rfl)
  have rm2 : ((w.alloc (.cells #[.int .i64 R.a, .int .i64 R.b, .int .i64 R.c] 22)).alloc (.cells #[.int .u16 m0, .int .u16 m1, .int .u16 m2] 42)).cell? ⟨w.heap.size, 2, none⟩ = some (.int .i64 R.c) := by first | (simp; done) | (rw [World.cell?_alloc_at _ _ _ _ (by simp)]; rfl) | (rw [World.cell?_alloc_past _ _ _ (by simp <;> omega), World.cell?_alloc_at _ _ _ _ (by simp)]; rfl) | (rw [World.cell?_alloc_past _ _ _ (by simp <;> omega), World.cell?_alloc_past _ _ _ (by simp <;> omega), World.cell?_alloc_at _ _ _ _ (by simp)]; rfl)
  have mo0 : ((w.alloc (.cells #[.int .i64 R.a, .int .i64 R.b, .int .i64 R.c] 22)).alloc (.cells #[.int .u16 m0, .int .u16 m1, .int .u16 m2] 42)).cell? ⟨w.heap.size + 1, 0, none⟩ = some (.int .u16 m0) := by first | (simp; done) | (rw [World.cell?_alloc_at _ _ _ _ (by simp)]; rfl) | (rw [World.cell?_alloc_past _ _ _ (by simp <;> omega), World.cell?_alloc_at _ _ _ _ (by simp)]; rfl) | (rw [World.cell?_alloc_past _ _ _ (by simp <;> omega), World.cell?_alloc_past _ _ _ (by simp <;> omega), World.cell?_alloc_at _ _ _ _ (by simp)]; rfl)
  have mo1 : ((w.alloc (.cells #[.int .i64 R.a, .int .i64 R.b, .int .i64 R.c] 22)).alloc (.cells #[.int .u16 m0, .int .u16 m1, .int .u16 m2] 42)).cell? ⟨w.heap.size + 1, 1, none⟩ = some (.int .u16 m1) := by first | (simp; done) | (rw [World.cell?_alloc_at _ _ _ _ (by simp)]; rfl) | (rw [World.cell?_alloc_past _ _ _ (by simp <;> omega), World.cell?_alloc_at _ _ _ _ (by simp)]; rfl) | (rw [World.cell?_alloc_past _ _ _ (by simp <;> omega), World.cell?_alloc_past _ _ _ (by simp <;> omega), World.cell?_alloc_at _ _ _ _ (by simp)]; rfl)
  have mo2 : ((w.alloc (.cells #[.int .i64 R.a, .int .i64 R.b, .int .i64 R.c] 22)).alloc (.cells #[.int .u16 m0, .int .u16 m1, .int .u16 m2] 42)).cell? ⟨w.heap.size + 1, 2, none⟩ = some (.int .u16 m2) := by first | (simp; done) | (rw [World.cell?_alloc_at _ _ _ _ (by simp)]; rfl) | (rw [World.cell?_alloc_past _ _ _ (by simp <;> omega), World.cell?_alloc_at _ _ _ _ (by simp)]; rfl) | (rw [World.cell?_alloc_past _ _ _ (by simp <;> omega), World.cell?_alloc_past _ _ _ (by simp <;> omega), World.cell?_alloc_at _ _ _ _ (by simp)]; rfl)
  have hb2 := (by repeat (first | exact hbel | refine belAlloc ?_ _ | refine belDrew ?_ | refine belSet ?_ _ _ (by simp)) : Below w.heap.size w ((w.alloc (.cells #[.int .i64 R.a, .int .i64 R.b, .int .i64 R.c] 22)).alloc (.cells #[.int .u16 m0, .int .u16 m1, .int .u16 m2] 42)))
  replace hw := belStep hw hb2
  clear hb2 hbel
  generalize (w.alloc (.cells #[.int .i64 R.a, .int .i64 R.b, .int .i64 R.c] 22)).alloc (.cells #[.int .u16 m0, .int .u16 m1, .int .u16 m2] 42) = W1 at *
  replace rm0 := keep rm0
  replace rm1 := keep rm1
  replace rm2 := keep rm2
  replace mo0 := keep mo0
  replace mo1 := keep mo1
  replace mo2 := keep mo2
  have hbel : Below W1.heap.size W1 W1 := Below.refl _ _
  skip
  go_upto_region 3 with (first | (go_at_call 12; (with_reducible refine (awake21 _).mono ?_); rintro e w1 ⟨rfl, hb1⟩; replace hbel := belStep hbel hb1; clear hb1) | (go_at_call 13; (with_reducible refine (CF.out _ (belStep hw hbel)).mono ?_); rintro e w3 ⟨⟨b, rfl, hfit⟩, hb3⟩; replace hbel := belStep hbel hb3; clear hb3; have HF := Lib.hid hfit; clear hfit; rcases b with _ | _))
  · go_ret
    exact ⟨rfl, belStep hw hbel⟩
  replace HF := Lib.hid (HF.out (by trivial))
  have HB0 := Lib.hid hbel
  have HW1 := Lib.hid hw
  have hlen : L.length ≤ 1000 := by have := HF.out.len; omega
  have hl64 : L.length ≤ 64 := HF.out.len
  have hz1 := hw.size
  go_wp2
  clear hw hbel
  go_loopw [9, 10] (fun s i wr => ∃ (k : Nat) (N : List PodV), k ≤ L.length ∧ i = .int .i64 k ∧ N.Sublist (L.take k) ∧ OwnR wr W1.heap.size 25 11 s N.length (N.flatMap PodV.cells) ∧ Below W1.heap.size W1 wr) (fun _ i _ => L.length - (intOf i).toNat)
  case atStart => exact ⟨0, [], Nat.zero_le _, rfl, List.nil_sublist _, OwnR.nil _ _ _ _, HB0.out⟩
  case round =>
    obtain ⟨k, N, hk, rfl, hN, hS, hbr⟩ := hrel
    have hbel := hbr
    have hw : Below W1.heap.size W1 W1 := Below.refl _ _
    clear hbr HB0
    replace rm0 := keepOnP rm0 hbel
    replace rm1 := keepOnP rm1 hbel
    replace rm2 := keepOnP rm2 hbel
    replace mo0 := keepOnP mo0 hbel
    replace mo1 := keepOnP mo1 hbel
    replace mo2 := keepOnP mo2 hbel
    replace hw := belStep hw hbel
    clear hbel
    generalize wr = W2 at *
    have hbel : Below W2.heap.size W2 W2 := Below.refl _ _
    have HWW := Lib.hid (HW1.out.trans (hw.mono HW1.out.size))
    have hz2 := hw.size
    by_cases hlt : k < L.length
    · obtain ⟨x, hx⟩ : ∃ x, L[k]? = some x := ⟨L[k], List.getElem?_eq_getElem hlt⟩
      have htk : L.take (k + 1) = L.take k ++ [x] := by rw [List.take_add_one, hx]; rfl
      have HN1 := Lib.hid (show N.Sublist (L.take (k + 1)) by rw [htk]; exact hN.trans (List.sublist_append_left _ _))
      have HN2 := Lib.hid (show (N ++ [x]).Sublist (L.take (k + 1)) by rw [htk]; exact List.Sublist.append hN (List.Sublist.refl _))
      have hnl : N.length ≤ k := by have := hN.length_le; rw [List.length_take] at this; omega
      have u5 : IntKind.u64.wrap (k : Int) = k := IntWalk.u64_in _ (by omega)
      obtain ⟨b, off, rfl, _, hc⟩ := (HR.out.later HWW.out).elem PodV.cells_len (by omega) hx
      have c0 := keep (hc 0 _ rfl)
      have c1 := keep (hc 1 _ rfl)
      have c2 := keep (hc 2 _ rfl)
      have c3 := keep (hc 3 _ rfl)
      have c4 := keep (hc 4 _ rfl)
      have c5 := keep (hc 5 _ rfl)
      have c6 := keep (hc 6 _ rfl)
      have c7 := keep (hc 7 _ rfl)
      have c8 := keep (hc 8 _ rfl)
      have c9 := keep (hc 9 _ rfl)
      have c10 := keep (hc 10 _ rfl)
      rw [Nat.add_zero] at c0
      have hd : decide ((k : Int) < (L.length : Int)) = true := decide_eq_true (by omega)
      have HS := Lib.hid hS
      clear hc hx htk hN hS HF CA CC
      go_upto_region 8 with fail
      · have HS2 := Lib.hid (OwnR.alloc (HS.out.later hbel) (.cells #[.string x.id, .int .i64 x.prio, .bool x.crit, .int .i64 x.r0, .int .i64 x.r1, .int .i64 x.r2, .int .i64 x.l0, .int .i64 x.l1, .int .i64 x.l2, .string x.img, .int .i64 x.size] 25))
        have HRX := Lib.hid (row_new W2 x.cells 25 1 11 rfl (by unfold maxLen; omega))
        go_wp2_with (at_builtin; refine wpList_app_keep rfl _ _ 23 rfl W1.heap.size 25 _ 11 104 Try.underlying23 info_pod rfl (by decide) _ _ _ rfl HS2.out _ 1 1 x.cells rfl HRX.out (pod_one x) ?c1 ?c2 ?c3 ?_)
        case c1 => simp only [maxLen]; omega
        case c2 => omega
        case c3 => have h1 := hw.size; have h2 := hbel.size; simp; omega
        intro v' w2 ho' _ hb' _ _
        have HO2 := Lib.hid ho'
        have HB2 := Lib.hid ((belAlloc (belStep hw hbel) (.cells #[.string x.id, .int .i64 x.prio, .bool x.crit, .int .i64 x.r0, .int .i64 x.r1, .int .i64 x.r2, .int .i64 x.l0, .int .i64 x.l1, .int .i64 x.l2, .string x.img, .int .i64 x.size] 25)).trans hb')
        clear ho' hb' hw hbel
        go_wp2
        go_roundw
        case rel => exact ⟨k + 1, N ++ [x], by omega, by push_cast; rfl, HN2.out, own_snoc HO2.out, HB2.out⟩
        case measure => simp [intOf] <;> omega
      · go_roundw
        case rel => exact ⟨k + 1, N, by omega, by push_cast; rfl, HN1.out, HS.out.later hbel, belStep hw hbel⟩
        case measure => simp [intOf] <;> omega
    · obtain rfl : k = L.length := by omega
      rw [List.take_length] at hN
      have hd : decide ((L.length : Int) < (L.length : Int)) = false := decide_eq_false (by omega)
      have HS := Lib.hid hS
      have HN := Lib.hid hN
      clear hS hN
      go_upto_region 10 with fail
      have hbk := Blk.new W2 [.int .i64 R.a, .int .i64 R.b, .int .i64 R.c] 22
      have hb3 := belAlloc hbel (.cells #[.int .i64 R.a, .int .i64 R.b, .int .i64 R.c] 22)
      clear hbel
      generalize W2.alloc (.cells #[.int .i64 R.a, .int .i64 R.b, .int .i64 R.c] 22) = W3 at *
      have HK := Lib.hid hbk
      have HB3 := Lib.hid hb3
      clear hbk hb3 hw
      obtain ⟨wa, hwa⟩ : ∃ z, wv R.a m0 = z := ⟨_, rfl⟩
      obtain ⟨wb, hwb⟩ : ∃ z, wv R.b m1 = z := ⟨_, rfl⟩
      obtain ⟨wc, hwc⟩ : ∃ z, wv R.c m2 = z := ⟨_, rfl⟩
      rw [hwa, hwb, hwc] at CC
      have HWA := Lib.hid hwa
      have HWB := Lib.hid hwb
      have HWC := Lib.hid hwc
      clear hwa hwb hwc
      go_wp2
      go_loopw [12] (fun i wr => ∃ k : Nat, k ≤ 3 ∧ i = .int .i64 k ∧ Blk wr W2.heap.size (wdC R wa wb wc k) 22 ∧ Below W2.heap.size W2 wr) (fun i _ => 3 - (intOf i).toNat)
      case atStart => exact ⟨0, by omega, rfl, HK.out, HB3.out⟩
      case round =>
        obtain ⟨k, hk, rfl, hB, hbel⟩ := hrel
        have key : k = 0 ∨ k = 1 ∨ k = 2 ∨ k = 3 := by omega
        clear hk HB3 HK
        have HBB := Lib.hid hB
        clear hB
        rcases key with rfl | rfl | rfl | rfl
        · have hB := HBB.out
          by_cases hg : R.a < 1000000000
          · have hE : wa = R.a + m0 := by rw [← HWA.out]; exact if_pos hg
            have a1 : IntKind.i64.wrap m0 = m0 := IntWalk.i64_in _ (by omega)
            have a2 : IntKind.i64.wrap (R.a + m0) = wa := by rw [hE]; exact IntWalk.i64_in _ (by omega)
            have y0 := hB.cell (j := 0) rfl
            have yf := hB.frozen
            have HB := Lib.hid hB
            clear hB hE
            go_upto_region 14 with fail
            refine wp_region_held_drew (S := fun u => Below W2.heap.size W2 u) (by kernel_rfl) (by exact (show Below W2.heap.size W2 _ by repeat (first | assumption | exact Below.refl _ _ | refine belDrew ?_ | refine belAlloc ?_ _ | refine belStep ?_ (by assumption)))) (fun hHeld => ?_)
            refine wpAnyH_take (i := 0) (oi := ?oi_k1) (v := ?v_k1) ?hi_k1 (by kernel_rfl) ?hf_k1 ?hr_k1 ?hQ_k1 (Or.inl ⟨?hw_k1, ?hy_k1⟩) (by assumption) ?rest_k1
            case hi_k1 => ((simp only [List.getElem?_toArray, List.getElem?_cons_succ, List.getElem?_cons_zero]); rfl)
            case hf_k1 => kernel_rfl
            case hr_k1 => kernel_rfl
            case hQ_k1 => exact fun _ _ _ h => h
            case hw_k1 => rfl
            case hy_k1 => ((intro w hSw; (try dsimp only at hSw); go_simp); all_goals (with_reducible rfl))
            try simp only [Act.put, List.setIfInBounds_toArray, List.set_cons_zero, List.set_cons_succ]
            refine wpAnyH_take (i := 1) (oi := ?oi_k2) (v := ?v_k2) ?hi_k2 (by kernel_rfl) ?hf_k2 ?hr_k2 ?hQ_k2 (Or.inl ⟨?hw_k2, ?hy_k2⟩) (by assumption) ?rest_k2
            case hi_k2 => ((simp only [List.getElem?_toArray, List.getElem?_cons_succ, List.getElem?_cons_zero]); rfl)
            case hf_k2 => kernel_rfl
            case hr_k2 => kernel_rfl
            case hQ_k2 => exact fun _ _ _ h => h
            case hw_k2 => rfl
            case hy_k2 => ((intro w hSw; (try dsimp only at hSw); go_simp); all_goals (with_reducible rfl))
            try simp only [Act.put, List.setIfInBounds_toArray, List.set_cons_zero, List.set_cons_succ]
            refine wpAnyH_take (i := 2) (oi := ?oi_k3) (v := ?v_k3) ?hi_k3 (by kernel_rfl) ?hf_k3 ?hr_k3 ?hQ_k3 (Or.inl ⟨?hw_k3, ?hy_k3⟩) (by assumption) ?rest_k3
            case hi_k3 => ((simp only [List.getElem?_toArray, List.getElem?_cons_succ, List.getElem?_cons_zero]); rfl)
            case hf_k3 => kernel_rfl
            case hr_k3 => kernel_rfl
            case hQ_k3 => exact fun _ _ _ h => h
            case hw_k3 => rfl
            case hy_k3 => ((intro w hSw; (try dsimp only at hSw); go_simp); all_goals (with_reducible rfl))
            try simp only [Act.put, List.setIfInBounds_toArray, List.set_cons_zero, List.set_cons_succ]
            refine wpAnyH_take (i := 3) (oi := ?oi_k4) (v := ?v_k4) ?hi_k4 (by kernel_rfl) ?hf_k4 ?hr_k4 ?hQ_k4 (Or.inl ⟨?hw_k4, ?hy_k4⟩) (by assumption) ?rest_k4
            case hi_k4 => ((simp only [List.getElem?_toArray, List.getElem?_cons_succ, List.getElem?_cons_zero]); rfl)
            case hf_k4 => kernel_rfl
            case hr_k4 => kernel_rfl
            case hQ_k4 => exact fun _ _ _ h => h
            case hw_k4 => rfl
            case hy_k4 => ((intro w hSw; (try dsimp only at hSw); go_simp); all_goals (with_reducible rfl))
            try simp only [Act.put, List.setIfInBounds_toArray, List.set_cons_zero, List.set_cons_succ]
            refine wpAnyH_take (i := 4) (oi := ?oi_k5) (v := ?v_k5) ?hi_k5 (by kernel_rfl) ?hf_k5 ?hr_k5 ?hQ_k5 (Or.inl ⟨?hw_k5, ?hy_k5⟩) (by assumption) ?rest_k5
            case hi_k5 => ((simp only [List.getElem?_toArray, List.getElem?_cons_succ, List.getElem?_cons_zero]); rfl)
            case hf_k5 => kernel_rfl
            case hr_k5 => kernel_rfl
            case hQ_k5 => exact fun _ _ _ h => h
            case hw_k5 => rfl
            case hy_k5 => ((intro w hSw; (try dsimp only at hSw); go_simp); all_goals (with_reducible rfl))
            try simp only [Act.put, List.setIfInBounds_toArray, List.set_cons_zero, List.set_cons_succ]
            refine wpAnyH_take (i := 5) (oi := ?oi_k6) (v := ?v_k6) ?hi_k6 (by kernel_rfl) ?hf_k6 ?hr_k6 ?hQ_k6 (Or.inl ⟨?hw_k6, ?hy_k6⟩) (by assumption) ?rest_k6
            case hi_k6 => ((simp only [List.getElem?_toArray, List.getElem?_cons_succ, List.getElem?_cons_zero]); rfl)
            case hf_k6 => kernel_rfl
            case hr_k6 => kernel_rfl
            case hQ_k6 => exact fun _ _ _ h => h
            case hw_k6 => rfl
            case hy_k6 => ((intro w hSw; (try dsimp only at hSw); go_simp); all_goals (with_reducible rfl))
            try simp only [Act.put, List.setIfInBounds_toArray, List.set_cons_zero, List.set_cons_succ]
            refine wpAnyH_take (i := 6) (oi := ?oi_k7) (v := ?v_k7) ?hi_k7 (by kernel_rfl) ?hf_k7 ?hr_k7 ?hQ_k7 (Or.inl ⟨?hw_k7, ?hy_k7⟩) (by assumption) ?rest_k7
            case hi_k7 => ((simp only [List.getElem?_toArray, List.getElem?_cons_succ, List.getElem?_cons_zero]); rfl)
            case hf_k7 => kernel_rfl
            case hr_k7 => kernel_rfl
            case hQ_k7 => exact fun _ _ _ h => h
            case hw_k7 => rfl
            case hy_k7 => ((intro w hSw; (try dsimp only at hSw); go_simp); all_goals (with_reducible rfl))
            try simp only [Act.put, List.setIfInBounds_toArray, List.set_cons_zero, List.set_cons_succ]
            refine wpAnyH_take (i := 7) (oi := ?oi_k8) (v := ?v_k8) ?hi_k8 (by kernel_rfl) ?hf_k8 ?hr_k8 ?hQ_k8 (Or.inl ⟨?hw_k8, ?hy_k8⟩) (by assumption) ?rest_k8
            case hi_k8 => ((simp only [List.getElem?_toArray, List.getElem?_cons_succ, List.getElem?_cons_zero]); rfl)
            case hf_k8 => kernel_rfl
            case hr_k8 => kernel_rfl
            case hQ_k8 => exact fun _ _ _ h => h
            case hw_k8 => rfl
            case hy_k8 => ((intro w hSw; (try dsimp only at hSw); go_simp); all_goals (with_reducible rfl))
            try simp only [Act.put, List.setIfInBounds_toArray, List.set_cons_zero, List.set_cons_succ]
            refine wpAnyH_take (i := 8) (oi := ?oi_k9) (v := ?v_k9) ?hi_k9 (by kernel_rfl) ?hf_k9 ?hr_k9 ?hQ_k9 (Or.inl ⟨?hw_k9, ?hy_k9⟩) (by assumption) ?rest_k9
            case hi_k9 => ((simp only [List.getElem?_toArray, List.getElem?_cons_succ, List.getElem?_cons_zero]); rfl)
            case hf_k9 => kernel_rfl
            case hr_k9 => kernel_rfl
            case hQ_k9 => exact fun _ _ _ h => h
            case hw_k9 => rfl
            case hy_k9 => ((intro w hSw; (try dsimp only at hSw); go_simp); all_goals (with_reducible rfl))
            try simp only [Act.put, List.setIfInBounds_toArray, List.set_cons_zero, List.set_cons_succ]
            refine wpAnyH_take (i := 9) (oi := ?oi_k10) (v := ?v_k10) ?hi_k10 (by kernel_rfl) ?hf_k10 ?hr_k10 ?hQ_k10 (Or.inl ⟨?hw_k10, ?hy_k10⟩) (by assumption) ?rest_k10
            case hi_k10 => ((simp only [List.getElem?_toArray, List.getElem?_cons_succ, List.getElem?_cons_zero]); rfl)
            case hf_k10 => kernel_rfl
            case hr_k10 => kernel_rfl
            case hQ_k10 => exact fun _ _ _ h => h
            case hw_k10 => rfl
            case hy_k10 => ((intro w hSw; (try dsimp only at hSw); go_simp); all_goals (with_reducible rfl))
            try simp only [Act.put, List.setIfInBounds_toArray, List.set_cons_zero, List.set_cons_succ]
            refine wpAnyH_ready (rs := [10]) (by kernel_rfl) (by simp) ?_
            refine AllReadyH.cons (o := ?o1_k11) ?hi_k11 (fun K hK => ?rest_k11) AllReadyH.nil
            case hi_k11 => ((simp only [List.getElem?_toArray, List.getElem?_cons_succ, List.getElem?_cons_zero]); rfl)
            go_simp
            have hB2 := HB.out.set 0 (.int .i64 wa)
            have hb2 := belSet hbel ⟨W2.heap.size, 0, none⟩ (.int .i64 wa) (Nat.le_refl _)
            clear y0 yf HB HBB hbel
            generalize wr.setCell ⟨W2.heap.size, 0, none⟩ (.int .i64 wa) = W4 at *
            refine hK.out _ _ (by exact belDrew hb2) (fun hHeld => ?_)
            clear hK K
            try simp only [Act.put, List.setIfInBounds_toArray, List.set_cons_zero, List.set_cons_succ]
            refine wpAnyH_done (by kernel_rfl) ?_ _
            have HB4 := Lib.hid hB2
            clear hB2
            go_wp2
            go_roundw
            case rel => exact ⟨1, by omega, rfl, HB4.out, belDrew hb2⟩
            case measure => simp [intOf]
          · have hE := Lib.hid (show wa = R.a by rw [← HWA.out]; exact if_neg hg)
            clear hB
            go_wp2
            go_roundw
            case rel => exact ⟨1, by omega, rfl, wd_same0 hE.out HBB.out, hbel⟩
            case measure => simp [intOf]
        · have hB := HBB.out
          by_cases hg : R.b < 1000000000
          · have hE : wb = R.b + m1 := by rw [← HWB.out]; exact if_pos hg
            have a1 : IntKind.i64.wrap m1 = m1 := IntWalk.i64_in _ (by omega)
            have a2 : IntKind.i64.wrap (R.b + m1) = wb := by rw [hE]; exact IntWalk.i64_in _ (by omega)
            have y0 := hB.cell (j := 1) rfl
            have yf := hB.frozen
            have HB := Lib.hid hB
            clear hB hE
            go_upto_region 14 with fail
            refine wp_region_held_drew (S := fun u => Below W2.heap.size W2 u) (by kernel_rfl) (by exact (show Below W2.heap.size W2 _ by repeat (first | assumption | exact Below.refl _ _ | refine belDrew ?_ | refine belAlloc ?_ _ | refine belStep ?_ (by assumption)))) (fun hHeld => ?_)
            refine wpAnyH_take (i := 0) (oi := ?oi_k12) (v := ?v_k12) ?hi_k12 (by kernel_rfl) ?hf_k12 ?hr_k12 ?hQ_k12 (Or.inl ⟨?hw_k12, ?hy_k12⟩) (by assumption) ?rest_k12
            case hi_k12 => ((simp only [List.getElem?_toArray, List.getElem?_cons_succ, List.getElem?_cons_zero]); rfl)
            case hf_k12 => kernel_rfl
            case hr_k12 => kernel_rfl
            case hQ_k12 => exact fun _ _ _ h => h
            case hw_k12 => rfl
            case hy_k12 => ((intro w hSw; (try dsimp only at hSw); go_simp); all_goals (with_reducible rfl))
            try simp only [Act.put, List.setIfInBounds_toArray, List.set_cons_zero, List.set_cons_succ]
            refine wpAnyH_take (i := 1) (oi := ?oi_k13) (v := ?v_k13) ?hi_k13 (by kernel_rfl) ?hf_k13 ?hr_k13 ?hQ_k13 (Or.inl ⟨?hw_k13, ?hy_k13⟩) (by assumption) ?rest_k13
            case hi_k13 => ((simp only [List.getElem?_toArray, List.getElem?_cons_succ, List.getElem?_cons_zero]); rfl)
            case hf_k13 => kernel_rfl
            case hr_k13 => kernel_rfl
            case hQ_k13 => exact fun _ _ _ h => h
            case hw_k13 => rfl
            case hy_k13 => ((intro w hSw; (try dsimp only at hSw); go_simp); all_goals (with_reducible rfl))
            try simp only [Act.put, List.setIfInBounds_toArray, List.set_cons_zero, List.set_cons_succ]
            refine wpAnyH_take (i := 2) (oi := ?oi_k14) (v := ?v_k14) ?hi_k14 (by kernel_rfl) ?hf_k14 ?hr_k14 ?hQ_k14 (Or.inl ⟨?hw_k14, ?hy_k14⟩) (by assumption) ?rest_k14
            case hi_k14 => ((simp only [List.getElem?_toArray, List.getElem?_cons_succ, List.getElem?_cons_zero]); rfl)
            case hf_k14 => kernel_rfl
            case hr_k14 => kernel_rfl
            case hQ_k14 => exact fun _ _ _ h => h
            case hw_k14 => rfl
            case hy_k14 => ((intro w hSw; (try dsimp only at hSw); go_simp); all_goals (with_reducible rfl))
            try simp only [Act.put, List.setIfInBounds_toArray, List.set_cons_zero, List.set_cons_succ]
            refine wpAnyH_take (i := 3) (oi := ?oi_k15) (v := ?v_k15) ?hi_k15 (by kernel_rfl) ?hf_k15 ?hr_k15 ?hQ_k15 (Or.inl ⟨?hw_k15, ?hy_k15⟩) (by assumption) ?rest_k15
            case hi_k15 => ((simp only [List.getElem?_toArray, List.getElem?_cons_succ, List.getElem?_cons_zero]); rfl)
            case hf_k15 => kernel_rfl
            case hr_k15 => kernel_rfl
            case hQ_k15 => exact fun _ _ _ h => h
            case hw_k15 => rfl
            case hy_k15 => ((intro w hSw; (try dsimp only at hSw); go_simp); all_goals (with_reducible rfl))
            try simp only [Act.put, List.setIfInBounds_toArray, List.set_cons_zero, List.set_cons_succ]
            refine wpAnyH_take (i := 4) (oi := ?oi_k16) (v := ?v_k16) ?hi_k16 (by kernel_rfl) ?hf_k16 ?hr_k16 ?hQ_k16 (Or.inl ⟨?hw_k16, ?hy_k16⟩) (by assumption) ?rest_k16
            case hi_k16 => ((simp only [List.getElem?_toArray, List.getElem?_cons_succ, List.getElem?_cons_zero]); rfl)
            case hf_k16 => kernel_rfl
            case hr_k16 => kernel_rfl
            case hQ_k16 => exact fun _ _ _ h => h
            case hw_k16 => rfl
            case hy_k16 => ((intro w hSw; (try dsimp only at hSw); go_simp); all_goals (with_reducible rfl))
            try simp only [Act.put, List.setIfInBounds_toArray, List.set_cons_zero, List.set_cons_succ]
            refine wpAnyH_take (i := 5) (oi := ?oi_k17) (v := ?v_k17) ?hi_k17 (by kernel_rfl) ?hf_k17 ?hr_k17 ?hQ_k17 (Or.inl ⟨?hw_k17, ?hy_k17⟩) (by assumption) ?rest_k17
            case hi_k17 => ((simp only [List.getElem?_toArray, List.getElem?_cons_succ, List.getElem?_cons_zero]); rfl)
            case hf_k17 => kernel_rfl
            case hr_k17 => kernel_rfl
            case hQ_k17 => exact fun _ _ _ h => h
            case hw_k17 => rfl
            case hy_k17 => ((intro w hSw; (try dsimp only at hSw); go_simp); all_goals (with_reducible rfl))
            try simp only [Act.put, List.setIfInBounds_toArray, List.set_cons_zero, List.set_cons_succ]
            refine wpAnyH_take (i := 6) (oi := ?oi_k18) (v := ?v_k18) ?hi_k18 (by kernel_rfl) ?hf_k18 ?hr_k18 ?hQ_k18 (Or.inl ⟨?hw_k18, ?hy_k18⟩) (by assumption) ?rest_k18
            case hi_k18 => ((simp only [List.getElem?_toArray, List.getElem?_cons_succ, List.getElem?_cons_zero]); rfl)
            case hf_k18 => kernel_rfl
            case hr_k18 => kernel_rfl
            case hQ_k18 => exact fun _ _ _ h => h
            case hw_k18 => rfl
            case hy_k18 => ((intro w hSw; (try dsimp only at hSw); go_simp); all_goals (with_reducible rfl))
            try simp only [Act.put, List.setIfInBounds_toArray, List.set_cons_zero, List.set_cons_succ]
            refine wpAnyH_take (i := 7) (oi := ?oi_k19) (v := ?v_k19) ?hi_k19 (by kernel_rfl) ?hf_k19 ?hr_k19 ?hQ_k19 (Or.inl ⟨?hw_k19, ?hy_k19⟩) (by assumption) ?rest_k19
            case hi_k19 => ((simp only [List.getElem?_toArray, List.getElem?_cons_succ, List.getElem?_cons_zero]); rfl)
            case hf_k19 => kernel_rfl
            case hr_k19 => kernel_rfl
            case hQ_k19 => exact fun _ _ _ h => h
            case hw_k19 => rfl
            case hy_k19 => ((intro w hSw; (try dsimp only at hSw); go_simp); all_goals (with_reducible rfl))
            try simp only [Act.put, List.setIfInBounds_toArray, List.set_cons_zero, List.set_cons_succ]
            refine wpAnyH_take (i := 8) (oi := ?oi_k20) (v := ?v_k20) ?hi_k20 (by kernel_rfl) ?hf_k20 ?hr_k20 ?hQ_k20 (Or.inl ⟨?hw_k20, ?hy_k20⟩) (by assumption) ?rest_k20
            case hi_k20 => ((simp only [List.getElem?_toArray, List.getElem?_cons_succ, List.getElem?_cons_zero]); rfl)
            case hf_k20 => kernel_rfl
            case hr_k20 => kernel_rfl
            case hQ_k20 => exact fun _ _ _ h => h
            case hw_k20 => rfl
            case hy_k20 => ((intro w hSw; (try dsimp only at hSw); go_simp); all_goals (with_reducible rfl))
            try simp only [Act.put, List.setIfInBounds_toArray, List.set_cons_zero, List.set_cons_succ]
            refine wpAnyH_take (i := 9) (oi := ?oi_k21) (v := ?v_k21) ?hi_k21 (by kernel_rfl) ?hf_k21 ?hr_k21 ?hQ_k21 (Or.inl ⟨?hw_k21, ?hy_k21⟩) (by assumption) ?rest_k21
            case hi_k21 => ((simp only [List.getElem?_toArray, List.getElem?_cons_succ, List.getElem?_cons_zero]); rfl)
            case hf_k21 => kernel_rfl
            case hr_k21 => kernel_rfl
            case hQ_k21 => exact fun _ _ _ h => h
            case hw_k21 => rfl
            case hy_k21 => ((intro w hSw; (try dsimp only at hSw); go_simp); all_goals (with_reducible rfl))
            try simp only [Act.put, List.setIfInBounds_toArray, List.set_cons_zero, List.set_cons_succ]
            refine wpAnyH_ready (rs := [10]) (by kernel_rfl) (by simp) ?_
            refine AllReadyH.cons (o := ?o1_k22) ?hi_k22 (fun K hK => ?rest_k22) AllReadyH.nil
            case hi_k22 => ((simp only [List.getElem?_toArray, List.getElem?_cons_succ, List.getElem?_cons_zero]); rfl)
            go_simp
            have hB2 := HB.out.set 1 (.int .i64 wb)
            have hb2 := belSet hbel ⟨W2.heap.size, 1, none⟩ (.int .i64 wb) (Nat.le_refl _)
            clear y0 yf HB HBB hbel
            generalize wr.setCell ⟨W2.heap.size, 1, none⟩ (.int .i64 wb) = W4 at *
            refine hK.out _ _ (by exact belDrew hb2) (fun hHeld => ?_)
            clear hK K
            try simp only [Act.put, List.setIfInBounds_toArray, List.set_cons_zero, List.set_cons_succ]
            refine wpAnyH_done (by kernel_rfl) ?_ _
            have HB4 := Lib.hid hB2
            clear hB2
            go_wp2
            go_roundw
            case rel => exact ⟨2, by omega, rfl, HB4.out, belDrew hb2⟩
            case measure => simp [intOf]
          · have hE := Lib.hid (show wb = R.b by rw [← HWB.out]; exact if_neg hg)
            clear hB
            go_wp2
            go_roundw
            case rel => exact ⟨2, by omega, rfl, wd_same1 hE.out HBB.out, hbel⟩
            case measure => simp [intOf]
        · have hB := HBB.out
          by_cases hg : R.c < 1000000000
          · have hE : wc = R.c + m2 := by rw [← HWC.out]; exact if_pos hg
            have a1 : IntKind.i64.wrap m2 = m2 := IntWalk.i64_in _ (by omega)
            have a2 : IntKind.i64.wrap (R.c + m2) = wc := by rw [hE]; exact IntWalk.i64_in _ (by omega)
            have y0 := hB.cell (j := 2) rfl
            have yf := hB.frozen
            have HB := Lib.hid hB
            clear hB hE
            go_upto_region 14 with fail
            refine wp_region_held_drew (S := fun u => Below W2.heap.size W2 u) (by kernel_rfl) (by exact (show Below W2.heap.size W2 _ by repeat (first | assumption | exact Below.refl _ _ | refine belDrew ?_ | refine belAlloc ?_ _ | refine belStep ?_ (by assumption)))) (fun hHeld => ?_)
            refine wpAnyH_take (i := 0) (oi := ?oi_k23) (v := ?v_k23) ?hi_k23 (by kernel_rfl) ?hf_k23 ?hr_k23 ?hQ_k23 (Or.inl ⟨?hw_k23, ?hy_k23⟩) (by assumption) ?rest_k23
            case hi_k23 => ((simp only [List.getElem?_toArray, List.getElem?_cons_succ, List.getElem?_cons_zero]); rfl)
            case hf_k23 => kernel_rfl
            case hr_k23 => kernel_rfl
            case hQ_k23 => exact fun _ _ _ h => h
            case hw_k23 => rfl
            case hy_k23 => ((intro w hSw; (try dsimp only at hSw); go_simp); all_goals (with_reducible rfl))
            try simp only [Act.put, List.setIfInBounds_toArray, List.set_cons_zero, List.set_cons_succ]
            refine wpAnyH_take (i := 1) (oi := ?oi_k24) (v := ?v_k24) ?hi_k24 (by kernel_rfl) ?hf_k24 ?hr_k24 ?hQ_k24 (Or.inl ⟨?hw_k24, ?hy_k24⟩) (by assumption) ?rest_k24
            case hi_k24 => ((simp only [List.getElem?_toArray, List.getElem?_cons_succ, List.getElem?_cons_zero]); rfl)
            case hf_k24 => kernel_rfl
            case hr_k24 => kernel_rfl
            case hQ_k24 => exact fun _ _ _ h => h
            case hw_k24 => rfl
            case hy_k24 => ((intro w hSw; (try dsimp only at hSw); go_simp); all_goals (with_reducible rfl))
            try simp only [Act.put, List.setIfInBounds_toArray, List.set_cons_zero, List.set_cons_succ]
            refine wpAnyH_take (i := 2) (oi := ?oi_k25) (v := ?v_k25) ?hi_k25 (by kernel_rfl) ?hf_k25 ?hr_k25 ?hQ_k25 (Or.inl ⟨?hw_k25, ?hy_k25⟩) (by assumption) ?rest_k25
            case hi_k25 => ((simp only [List.getElem?_toArray, List.getElem?_cons_succ, List.getElem?_cons_zero]); rfl)
            case hf_k25 => kernel_rfl
            case hr_k25 => kernel_rfl
            case hQ_k25 => exact fun _ _ _ h => h
            case hw_k25 => rfl
            case hy_k25 => ((intro w hSw; (try dsimp only at hSw); go_simp); all_goals (with_reducible rfl))
            try simp only [Act.put, List.setIfInBounds_toArray, List.set_cons_zero, List.set_cons_succ]
            refine wpAnyH_take (i := 3) (oi := ?oi_k26) (v := ?v_k26) ?hi_k26 (by kernel_rfl) ?hf_k26 ?hr_k26 ?hQ_k26 (Or.inl ⟨?hw_k26, ?hy_k26⟩) (by assumption) ?rest_k26
            case hi_k26 => ((simp only [List.getElem?_toArray, List.getElem?_cons_succ, List.getElem?_cons_zero]); rfl)
            case hf_k26 => kernel_rfl
            case hr_k26 => kernel_rfl
            case hQ_k26 => exact fun _ _ _ h => h
            case hw_k26 => rfl
            case hy_k26 => ((intro w hSw; (try dsimp only at hSw); go_simp); all_goals (with_reducible rfl))
            try simp only [Act.put, List.setIfInBounds_toArray, List.set_cons_zero, List.set_cons_succ]
            refine wpAnyH_take (i := 4) (oi := ?oi_k27) (v := ?v_k27) ?hi_k27 (by kernel_rfl) ?hf_k27 ?hr_k27 ?hQ_k27 (Or.inl ⟨?hw_k27, ?hy_k27⟩) (by assumption) ?rest_k27
            case hi_k27 => ((simp only [List.getElem?_toArray, List.getElem?_cons_succ, List.getElem?_cons_zero]); rfl)
            case hf_k27 => kernel_rfl
            case hr_k27 => kernel_rfl
            case hQ_k27 => exact fun _ _ _ h => h
            case hw_k27 => rfl
            case hy_k27 => ((intro w hSw; (try dsimp only at hSw); go_simp); all_goals (with_reducible rfl))
            try simp only [Act.put, List.setIfInBounds_toArray, List.set_cons_zero, List.set_cons_succ]
            refine wpAnyH_take (i := 5) (oi := ?oi_k28) (v := ?v_k28) ?hi_k28 (by kernel_rfl) ?hf_k28 ?hr_k28 ?hQ_k28 (Or.inl ⟨?hw_k28, ?hy_k28⟩) (by assumption) ?rest_k28
            case hi_k28 => ((simp only [List.getElem?_toArray, List.getElem?_cons_succ, List.getElem?_cons_zero]); rfl)
            case hf_k28 => kernel_rfl
            case hr_k28 => kernel_rfl
            case hQ_k28 => exact fun _ _ _ h => h
            case hw_k28 => rfl
            case hy_k28 => ((intro w hSw; (try dsimp only at hSw); go_simp); all_goals (with_reducible rfl))
            try simp only [Act.put, List.setIfInBounds_toArray, List.set_cons_zero, List.set_cons_succ]
            refine wpAnyH_take (i := 6) (oi := ?oi_k29) (v := ?v_k29) ?hi_k29 (by kernel_rfl) ?hf_k29 ?hr_k29 ?hQ_k29 (Or.inl ⟨?hw_k29, ?hy_k29⟩) (by assumption) ?rest_k29
            case hi_k29 => ((simp only [List.getElem?_toArray, List.getElem?_cons_succ, List.getElem?_cons_zero]); rfl)
            case hf_k29 => kernel_rfl
            case hr_k29 => kernel_rfl
            case hQ_k29 => exact fun _ _ _ h => h
            case hw_k29 => rfl
            case hy_k29 => ((intro w hSw; (try dsimp only at hSw); go_simp); all_goals (with_reducible rfl))
            try simp only [Act.put, List.setIfInBounds_toArray, List.set_cons_zero, List.set_cons_succ]
            refine wpAnyH_take (i := 7) (oi := ?oi_k30) (v := ?v_k30) ?hi_k30 (by kernel_rfl) ?hf_k30 ?hr_k30 ?hQ_k30 (Or.inl ⟨?hw_k30, ?hy_k30⟩) (by assumption) ?rest_k30
            case hi_k30 => ((simp only [List.getElem?_toArray, List.getElem?_cons_succ, List.getElem?_cons_zero]); rfl)
            case hf_k30 => kernel_rfl
            case hr_k30 => kernel_rfl
            case hQ_k30 => exact fun _ _ _ h => h
            case hw_k30 => rfl
            case hy_k30 => ((intro w hSw; (try dsimp only at hSw); go_simp); all_goals (with_reducible rfl))
            try simp only [Act.put, List.setIfInBounds_toArray, List.set_cons_zero, List.set_cons_succ]
            refine wpAnyH_take (i := 8) (oi := ?oi_k31) (v := ?v_k31) ?hi_k31 (by kernel_rfl) ?hf_k31 ?hr_k31 ?hQ_k31 (Or.inl ⟨?hw_k31, ?hy_k31⟩) (by assumption) ?rest_k31
            case hi_k31 => ((simp only [List.getElem?_toArray, List.getElem?_cons_succ, List.getElem?_cons_zero]); rfl)
            case hf_k31 => kernel_rfl
            case hr_k31 => kernel_rfl
            case hQ_k31 => exact fun _ _ _ h => h
            case hw_k31 => rfl
            case hy_k31 => ((intro w hSw; (try dsimp only at hSw); go_simp); all_goals (with_reducible rfl))
            try simp only [Act.put, List.setIfInBounds_toArray, List.set_cons_zero, List.set_cons_succ]
            refine wpAnyH_take (i := 9) (oi := ?oi_k32) (v := ?v_k32) ?hi_k32 (by kernel_rfl) ?hf_k32 ?hr_k32 ?hQ_k32 (Or.inl ⟨?hw_k32, ?hy_k32⟩) (by assumption) ?rest_k32
            case hi_k32 => ((simp only [List.getElem?_toArray, List.getElem?_cons_succ, List.getElem?_cons_zero]); rfl)
            case hf_k32 => kernel_rfl
            case hr_k32 => kernel_rfl
            case hQ_k32 => exact fun _ _ _ h => h
            case hw_k32 => rfl
            case hy_k32 => ((intro w hSw; (try dsimp only at hSw); go_simp); all_goals (with_reducible rfl))
            try simp only [Act.put, List.setIfInBounds_toArray, List.set_cons_zero, List.set_cons_succ]
            refine wpAnyH_ready (rs := [10]) (by kernel_rfl) (by simp) ?_
            refine AllReadyH.cons (o := ?o1_k33) ?hi_k33 (fun K hK => ?rest_k33) AllReadyH.nil
            case hi_k33 => ((simp only [List.getElem?_toArray, List.getElem?_cons_succ, List.getElem?_cons_zero]); rfl)
            go_simp
            have hB2 := HB.out.set 2 (.int .i64 wc)
            have hb2 := belSet hbel ⟨W2.heap.size, 2, none⟩ (.int .i64 wc) (Nat.le_refl _)
            clear y0 yf HB HBB hbel
            generalize wr.setCell ⟨W2.heap.size, 2, none⟩ (.int .i64 wc) = W4 at *
            refine hK.out _ _ (by exact belDrew hb2) (fun hHeld => ?_)
            clear hK K
            try simp only [Act.put, List.setIfInBounds_toArray, List.set_cons_zero, List.set_cons_succ]
            refine wpAnyH_done (by kernel_rfl) ?_ _
            have HB4 := Lib.hid hB2
            clear hB2
            go_wp2
            go_roundw
            case rel => exact ⟨3, by omega, rfl, HB4.out, belDrew hb2⟩
            case measure => simp [intOf]
          · have hE := Lib.hid (show wc = R.c by rw [← HWC.out]; exact if_neg hg)
            clear hB
            go_wp2
            go_roundw
            case rel => exact ⟨3, by omega, rfl, wd_same2 hE.out HBB.out, hbel⟩
            case measure => simp [intOf]
        · have hB := HBB.out
          have hw : Below W2.heap.size W2 W2 := Below.refl _ _
          have HWX := Lib.hid (HWW.out.trans (hbel.mono HWW.out.size))
          have HS3 := Lib.hid (HS.out.later hbel)
          clear HBB HWW HS
          replace rm0 := keepOnP rm0 hbel
          replace rm1 := keepOnP rm1 hbel
          replace rm2 := keepOnP rm2 hbel
          replace hw := belStep hw hbel
          clear hbel
          generalize wr = W5 at *
          have hbel : Below W5.heap.size W5 W5 := Below.refl _ _
          have y0 := keep (hB.cell (j := 0) rfl)
          have y1 := keep (hB.cell (j := 1) rfl)
          have y2 := keep (hB.cell (j := 2) rfl)
          have hm1 : fitsB R L = true → fitsB R N = true := fun h => fits_mono h HN.out (fun x hx => (HF.out.rl x hx).1) (Int.le_refl _) (Int.le_refl _) (Int.le_refl _)
          have hm2 : fitsB R L = true → fitsB ⟨wa, wb, wc⟩ L = true := fun h => fits_mono h (List.Sublist.refl _) (fun x hx => (HF.out.rl x hx).1) (by rw [← HWA.out]; exact wv_le _ _ hm0.1) (by rw [← HWB.out]; exact wv_le _ _ hm1b.1) (by rw [← HWC.out]; exact wv_le _ _ hm2b.1)
          have CB := fun v (hv : Below W5.heap.size W5 v) => fits_own R N v (HS3.out.later hv) (fun x hx => HOK.out x (HN.out.subset hx))
          have C0 := Lib.hid (fun v => nil_fits R v HF.out.ra HF.out.rb HF.out.rc)
          have CA2 := fun v (hv : Below W5.heap.size W5 v) => CA.out v (belStep HWX.out hv)
          have CC2 := fun v (hv : Below W5.heap.size W5 v) => CC.out v (belStep HWX.out hv)
          clear HF HS3 CA CC hB
          cases hfA : fitsB R L with
          | false =>
            rw [hfA] at CA2
            have CA3 := Lib.hid CA2
            clear CA2 CB CC2 hm1 hm2 hfA
            go_wp2_with (first | (go_at_call 18; (with_reducible refine (C0.out _).mono ?_); rintro e w1 ⟨rfl, hb1⟩; replace hbel := belStep hbel hb1; clear hb1) | (go_at_call 18; (with_reducible refine (CA3.out _ hbel).mono ?_); rintro e w1 ⟨rfl, hb1⟩; replace hbel := belStep hbel hb1; clear hb1))
            go_ret
            exact ⟨rfl, belStep HWX.out hbel⟩
          | true =>
            rw [hfA] at CA2
            rw [hm1 hfA] at CB
            rw [hm2 hfA] at CC2
            have CA3 := Lib.hid CA2
            have CB3 := Lib.hid CB
            have CC3 := Lib.hid CC2
            clear CA2 CB CC2 hm1 hm2 hfA
            go_wp2_with (first | (go_at_call 18; (with_reducible refine (C0.out _).mono ?_); rintro e w1 ⟨rfl, hb1⟩; replace hbel := belStep hbel hb1; clear hb1) | (go_at_call 18; (with_reducible refine (CA3.out _ hbel).mono ?_); rintro e w1 ⟨rfl, hb1⟩; replace hbel := belStep hbel hb1; clear hb1) | (go_at_call 18; (with_reducible refine (CB3.out _ hbel).mono ?_); rintro e w1 ⟨rfl, hb1⟩; replace hbel := belStep hbel hb1; clear hb1) | (go_at_call 18; (with_reducible refine (CC3.out _ hbel).mono ?_); rintro e w1 ⟨rfl, hb1⟩; replace hbel := belStep hbel hb1; clear hb1))
            go_ret
            exact ⟨rfl, belStep HWX.out hbel⟩

set_option maxRecDepth 100000 in
theorem lifted (os : Os) (started : os.Started) (H : Type) (enc : TypeId × Value → H) :
    ReturnsInHanded {} Try.checked os 10 .any (Rows.victimLessSpec.pre6 enc Try.prog Try.f10 Rows.victimLessRow.domain false) (Rows.victimLessSpec.post enc Try.prog Try.f10 false true false false) := by
  refine returnsInHanded_of_change (C := Try.checked) own started (by kernel_rfl) Try.func10
    (ChangeSpec.witness6 (enc := enc) (C := Try.checked) false ⟨#[], #[.agg #[.int .i64 0, .int .i64 0, .int .i64 0], .slice none 0 0, .agg #[.int .u16 0, .int .u16 0, .int .u16 0], .int .u64 0], []⟩ 8 (by kernel_rfl) (by kernel_rfl) (by kernel_rfl) (by kernel_rfl)) ?_
  intro W base args ds gs before hval0 hW hcnd _
  have hval : ∀ (j : Nat) t v, Try.f10.params[j]? = some t → args[j]? = some v → Value.okWide Try.prog W .any base t v := hval0
  have hW' := hW
  obtain ⟨p, q, hA0, hV, rfl, hfz, hnd⟩ := hW
  have hA : DataW.TrodAll enc Try.prog W 0 (fun _ => true) true Try.f10.params.toList args.toList ds p := hA0
  rw [Try.params10] at hA hval
  obtain ⟨v0, vs0, d0, ds0, p0, q0, hargs, rfl, rfl, h0, r0⟩ := trodAll_cons hA
  obtain ⟨v1, vs1, d1, ds1, p1, q1, rfl, rfl, rfl, h1, r1⟩ := trodAll_cons r0
  obtain ⟨v2, vs2, d2, ds2, p2, q2, rfl, rfl, rfl, h2, r2⟩ := trodAll_cons r1
  obtain ⟨v3, vs3, d3, ds3, p3, q3, rfl, rfl, rfl, h3, r3⟩ := trodAll_cons r2
  obtain ⟨rfl, rfl, rfl⟩ := trodAll_nil r3
  obtain rfl : args = #[v0, v1, v2, v3] := by cases args; simp_all
  obtain ⟨rfl, rfl⟩ := trodVars_none hV
  have k0 := h0
  have lt0 : ∀ x ∈ p0, x.block < W.heap.size := by obtain ⟨m, hm⟩ := k0; exact DataW.trod_lt m _ _ _ hm
  have o0 : Value.okWide Try.prog W .any base 22 v0 := hval 0 22 v0 rfl rfl
  obtain ⟨R0, rfl, f0, g0, h0⟩ := open_room o0 h0
  have k1 := h1
  have lt1 : ∀ x ∈ p1, x.block < W.heap.size := by obtain ⟨m, hm⟩ := k1; exact DataW.trod_lt m _ _ _ hm
  have o1 : Value.okWide Try.prog W .any base 23 v1 := hval 1 23 v1 rfl rfl
  obtain ⟨a1, len1, cap1, L1, rfl, f1, g1, i1⟩ := open_pods o1 h1
  have k2 := h2
  have lt2 : ∀ x ∈ p2, x.block < W.heap.size := by obtain ⟨m, hm⟩ := k2; exact DataW.trod_lt m _ _ _ hm
  have o2 : Value.okWide Try.prog W .any base 42 v2 := hval 2 42 v2 rfl rfl
  obtain ⟨p2, q2, s2, rfl, k12, k22, k32⟩ := open_three16 o2 h2
  have k3 := h3
  have lt3 : ∀ x ∈ p3, x.block < W.heap.size := by obtain ⟨m, hm⟩ := k3; exact DataW.trod_lt m _ _ _ hm
  have o3 : Value.okWide Try.prog W .any base 34 v3 := hval 3 34 v3 rfl rfl
  obtain ⟨a3, rfl, rfl, rfl, w3⟩ := open_int Try.underlying34 o3 h3
  clear hA0 hval0
  refine (walk R0 a1 len1 cap1 L1 p2 q2 s2 a3 W f0 g0 h0 f1 g1 i1 k12 k22 k32 (in64_of_wf w3)).mono fun e W' ⟨he, bel⟩ => ?_
  subst he
  exact ⟨_, rfl, _, _, _, [], _, [], hW', trodAll_mk1 (shut_bool Try.underlying4 _), (trodAll_cons_mk (Below.trod laidOut (by kernel_rfl) (of_decide_eq_true (by kernel_rfl)) k0 bel lt0) (trodAll_cons_mk (Below.trod laidOut (by kernel_rfl) (of_decide_eq_true (by kernel_rfl)) k1 bel lt1) (trodAll_cons_mk (Below.trod laidOut (by kernel_rfl) (of_decide_eq_true (by kernel_rfl)) k2 bel lt2) (trodAll_cons_mk (Below.trod laidOut (by kernel_rfl) (of_decide_eq_true (by kernel_rfl)) k3 bel lt3) trodAll_mk0)))), rfl, bel.frame _, fun h => by cases h⟩

theorem over : Rows.victimLessRow.holds Try.pinned (OpenSpec.ofChange Rows.victimLessSpec) :=
  OpenClaim.holds_of_wide 10 Try.f10 rfl rfl rfl rfl rfl rfl rfl ⟨rfl, rfl, rfl, rfl, rfl⟩ rfl rfl rfl rfl rfl (by kernel_rfl) Try.func10 (by kernel_rfl)
    (of_decide_eq_true (by kernel_rfl)) (by unfold Func.isWrapper; first | (rw [if_pos (by decide +kernel)]; kernel_rfl) | (rw [if_neg (by decide +kernel)]; exact ⟨rfl, rfl⟩))
    (fun os started H enc _ => lifted os started H enc)

/-- The statement. -/
theorem proved : Rows.VictimLessSaid := over
#print axioms proved

end Go.Proofs.Ytnnmganjlhojfaa.victimLess
