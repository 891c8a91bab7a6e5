
/- DiskMoves holds for every two slices of bytes and either truth value. No conditions. -/
import Derived.Test.YtcnjcldfbidkmaaDkAw
namespace Go.Proofs.Ytcnjcldfbidkmaa.diskMoves
open Go.ChangeShapes Go.WideShapes Go.ChangeAt Go.RowKit
open Go.ChangeMaps (open_string shut_string)
set_option linter.unusedVariables false
open Go.RowKit Go.Sort Go.Maps Go.WideMaps
set_option linter.unusedSimpArgs false
def mW (Z : List Int) : MOp := ⟨1, ⟨#[120]⟩, ⟨#[]⟩, Z⟩
def mR (s t : ByteArray) : MOp := ⟨2, s, t, []⟩
def mV (s : ByteArray) : MOp := ⟨3, s, ⟨#[]⟩, []⟩
theorem w_right (Z : List Int) : rightM (mW Z) = true := by unfold rightM mW; rw [if_pos rfl]; show namedM ⟨#[120]⟩ = true; decide +kernel
theorem right_E {o : MOp} (h : rightM o = true) : doE o = 0 := by unfold doE; rw [h]; rfl
theorem right_do (F : List FileM) (D : List MOp) (c : Nat) {o : MOp} (h : rightM o = true) (h2 : ownM o = o) : doW ⟨F, D, c⟩ o = ⟨F, D ++ [o], c⟩ := by unfold doW; rw [h, if_pos rfl, h2]
theorem w_own (Z : List Int) : ownM (mW Z) = mW Z := rfl
theorem r_right1 : rightM (mR ⟨#[110, 111, 110, 101]⟩ ⟨#[120]⟩) = true := by decide +kernel
theorem r_right2 : rightM (mR ⟨#[120]⟩ ⟨#[121]⟩) = true := by decide +kernel
theorem r_right3 : rightM (mR ⟨#[120]⟩ ⟨#[120]⟩) = true := by decide +kernel
theorem v_right1 : rightM (mV ⟨#[121]⟩) = true := by decide +kernel
theorem v_right2 : rightM (mV ⟨#[120]⟩) = true := by decide +kernel
theorem put_one (x : ByteArray) (l m : List Int) : putF [⟨x, l⟩] x m = [⟨x, m⟩] := by
  unfold putF
  simp [List.lt_irrefl]
theorem mv_none {x n : ByteArray} (h : (x.toList == n.toList) = false) (t : ByteArray) (m : List Int) : moveF [⟨x, m⟩] n t = [⟨x, m⟩] :=
  move_none (by unfold getF; rw [List.find?_cons, h]; rfl)
theorem get_one (x : ByteArray) (m : List Int) : getF [⟨x, m⟩] x = some m := by unfold getF; rw [List.find?_cons, show (x.toList == x.toList) = true by simp]; rfl
theorem get_no {x y : ByteArray} (h : (x.toList == y.toList) = false) (m : List Int) : getF [⟨x, m⟩] y = none := by unfold getF; rw [List.find?_cons, h]; rfl
theorem mv_other {x y : ByteArray} (h : (x.toList == y.toList) = false) (h2 : x.toList < y.toList) (m : List Int) : moveF [⟨x, m⟩] x y = [⟨y, m⟩] := by
  have h3 : ¬ y.toList < x.toList := fun q => List.lt_irrefl _ (List.lt_trans q h2)
  have h4 : (y.toList == x.toList) = false := by rw [beq_eq_false_iff_ne] at h ⊢; exact fun e => h e.symm
  rw [move_get (get_one x m) h]
  unfold putF delF
  simp [h2, h3]
  exact fun e => by rw [e] at h4; simp at h4
theorem mv_one (x : ByteArray) (m : List Int) : moveF [⟨x, m⟩] x x = [⟨x, m⟩] := move_same (by simp)
theorem del_one (x : ByteArray) (m : List Int) : delF [⟨x, m⟩] x = [] := by unfold delF; simp
def mD (t : ByteArray) (l m : List Int) : DiskV := ⟨[], [mW l, mW m, mR ⟨#[110, 111, 110, 101]⟩ ⟨#[120]⟩, mR ⟨#[120]⟩ t], 0⟩
def mE (t : ByteArray) (l m : List Int) : DiskV := ⟨[], [mW l, mW m, mR ⟨#[110, 111, 110, 101]⟩ ⟨#[120]⟩, mR ⟨#[120]⟩ t, mV t, mV t], 0⟩
theorem xn : ((⟨#[120]⟩ : ByteArray).toList == (⟨#[110, 111, 110, 101]⟩ : ByteArray).toList) = false := by decide +kernel
theorem xy : ((⟨#[120]⟩ : ByteArray).toList == (⟨#[121]⟩ : ByteArray).toList) = false := by decide +kernel
theorem yx : ((⟨#[121]⟩ : ByteArray).toList == (⟨#[120]⟩ : ByteArray).toList) = false := by decide +kernel
theorem x_lt : (⟨#[120]⟩ : ByteArray).toList < (⟨#[121]⟩ : ByteArray).toList := by decide +kernel
theorem m_look (t : ByteArray) (l m : List Int) : (mD t l m).look = moveF [⟨⟨#[120]⟩, m⟩] ⟨#[120]⟩ t := by
  show moveF (moveF (putF (putF [] ⟨#[120]⟩ l) ⟨#[120]⟩ m) ⟨#[110, 111, 110, 101]⟩ ⟨#[120]⟩) ⟨#[120]⟩ t = _
  rw [show putF [] ⟨#[120]⟩ l = [⟨⟨#[120]⟩, l⟩] from rfl, put_one, mv_none xn]
theorem m_lookE (t : ByteArray) (l m : List Int) : (mE t l m).look = delF (delF (mD t l m).look t) t := rfl
theorem look_y (l m : List Int) : (mD ⟨#[121]⟩ l m).look = [⟨⟨#[121]⟩, m⟩] := by rw [m_look, mv_other xy x_lt]
theorem look_x (l m : List Int) : (mD ⟨#[120]⟩ l m).look = [⟨⟨#[120]⟩, m⟩] := by rw [m_look, mv_one]
theorem lookE_y (l m : List Int) : (mE ⟨#[121]⟩ l m).look.length = 0 := by rw [m_lookE, look_y, del_one]; rfl
theorem lookE_x (l m : List Int) : (mE ⟨#[120]⟩ l m).look.length = 0 := by rw [m_lookE, look_x, del_one]; rfl
set_option maxRecDepth 100000 in
set_option maxHeartbeats 16000000 in
theorem walk (a : Option Addr) (len cap : Nat) (l : List Int) (b : Option Addr) (lb lc : Nat) (m : List Int) (sm : Bool) (w : World) (hl : Ints .u8 w a len cap l) (hm : Ints .u8 w b lb lc m) :
    Calls Try.prog 10 #[.slice a len cap, .slice b lb lc, .bool sm] w fun e w' => e = .returned (.bool true) ∧ Below w.heap.size w w' := by
  have hw : Below w.heap.size w w := Below.refl _ _
  have hbel := hw
  have hln := hl.bounds
  have hmn := hm.bounds
  obtain ⟨hl1, hl2, hl3⟩ := hln
  obtain ⟨hm1, hm2, hm3⟩ := hmn
  subst hl1
  subst hm1
  have hl4 : l.length ≤ 9223372036854775807 := by omega
  have hm4 : m.length ≤ 9223372036854775807 := by omega
  have HL := Lib.hid hl
  have HM := Lib.hid hm
  clear hl hm
  by_cases hL : 300 < l.length
  · have dL : decide ((300 : Int) < (l.length : Int)) = true := decide_eq_true (by omega)
    go_enter Try.func10, Try.ntmps10
    go_wp2_with (first | (go_at_call 30; (with_reducible refine (awake_10 _).mono ?_); rintro e wa ⟨rfl, ha⟩; replace hbel := belStep hbel ha; clear ha))
    go_ret
    exact ⟨rfl, hbel⟩
  · have dL : decide ((300 : Int) < (l.length : Int)) = false := decide_eq_false (by omega)
    have iL : ¬ (300 : Int) < (l.length : Int) := by omega
    by_cases hM : 300 < m.length
    · have dM : decide ((300 : Int) < (m.length : Int)) = true := decide_eq_true (by omega)
      go_enter Try.func10, Try.ntmps10
      go_wp2_with (first | (go_at_call 30; (with_reducible refine (awake_10 _).mono ?_); rintro e wa ⟨rfl, ha⟩; replace hbel := belStep hbel ha; clear ha))
      go_ret
      exact ⟨rfl, hbel⟩
    · cases sm with
      | true =>
        go_enter Try.func10, Try.ntmps10
        go_upto_region 9 with (first | (go_at_call 30; (with_reducible refine (awake_10 _).mono ?_); rintro e wa ⟨rfl, ha⟩; replace hbel := belStep hbel ha; clear ha) | (go_at_call 32; (with_reducible refine (dl_New w.heap.size [] _ (fun b hb => absurd hb List.not_mem_nil) hbel.size).mono ?_); rintro e w1 ⟨M, rfl, hd_, hb_⟩; have HD0 := Lib.hid hd_; have HB0 := Lib.hid (hbel.trans hb_); clear hd_ hb_))
        clear hbel hw
        have C0 := Lib.hid (show Calls Try.prog 33 #[.pointer (some ⟨M, 0, none⟩), .agg #[.int .i64 1, .string ⟨#[120]⟩, .string ⟨#[]⟩, .slice a l.length cap]] (w1) (fun e w' => e = .returned (.int .i64 0) ∧ DKv w.heap.size w' M [] (⟨[], [mW l], 0⟩) ∧ Below w.heap.size (w1) w' ∧ Free [] (w1) w') from (dl_Do w.heap.size M [] ⟨[], [], 0⟩ _ HD0.out (fun b hb => absurd hb List.not_mem_nil) HB0.out.size (show 0 + 0 ≤ 100000 by omega) ⟨1, ⟨#[120]⟩, ⟨#[]⟩, a, cap, l⟩ (HL.out.later HB0.out) (show l.length ≤ 1000000 by omega) ⟨show (⟨#[120]⟩ : ByteArray).size ≤ maxLen by decide +kernel, show (⟨#[]⟩ : ByteArray).size ≤ maxLen by decide +kernel, ⟨show (-9223372036854775808 : Int) ≤ 1 by omega, show (1 : Int) ≤ 9223372036854775807 by omega⟩⟩).mono (by rintro e wq ⟨h1, h2, h3⟩; exact ⟨h1.trans (congrArg (fun z => Ending.returned (.int .i64 z)) (right_E (w_right l))), (Eq.mp (congrArg (DKv w.heap.size wq M []) (show doW ⟨[], [], 0⟩ (mW l) = ⟨[], [mW l], 0⟩ from right_do _ _ _ (w_right l) rfl)) h2), h3⟩))
        go_upto_region 10 with (go_at_call 33; (with_reducible refine (C0.out).mono ?_); rintro e v0 ⟨rfl, hd_, hb_, -⟩; have HD1 := Lib.hid hd_; have HB1 := Lib.hid (HB0.out.trans hb_); clear hd_ hb_ C0 HD0)
        have C1 := Lib.hid (show Calls Try.prog 33 #[.pointer (some ⟨M, 0, none⟩), .agg #[.int .i64 1, .string ⟨#[120]⟩, .string ⟨#[]⟩, .slice b m.length lc]] (v0) (fun e w' => e = .returned (.int .i64 0) ∧ DKv w.heap.size w' M [] (⟨[], [mW l, mW m], 0⟩) ∧ Below w.heap.size (v0) w' ∧ Free [] (v0) w') from (dl_Do w.heap.size M [] ⟨[], [mW l], 0⟩ _ HD1.out (fun b hb => absurd hb List.not_mem_nil) HB1.out.size (show 0 + 1 ≤ 100000 by omega) ⟨1, ⟨#[120]⟩, ⟨#[]⟩, b, lc, m⟩ (HM.out.later HB1.out) (show m.length ≤ 1000000 by omega) ⟨show (⟨#[120]⟩ : ByteArray).size ≤ maxLen by decide +kernel, show (⟨#[]⟩ : ByteArray).size ≤ maxLen by decide +kernel, ⟨show (-9223372036854775808 : Int) ≤ 1 by omega, show (1 : Int) ≤ 9223372036854775807 by omega⟩⟩).mono (by rintro e wq ⟨h1, h2, h3⟩; exact ⟨h1.trans (congrArg (fun z => Ending.returned (.int .i64 z)) (right_E (w_right m))), (Eq.mp (congrArg (DKv w.heap.size wq M []) (show doW ⟨[], [mW l], 0⟩ (mW m) = ⟨[], [mW l, mW m], 0⟩ from right_do _ _ _ (w_right m) rfl)) h2), h3⟩))
        go_upto_region 11 with (go_at_call 33; (with_reducible refine (C1.out).mono ?_); rintro e v1 ⟨rfl, hd_, hb_, -⟩; have HD2 := Lib.hid hd_; have HB2 := Lib.hid (HB1.out.trans hb_); clear hd_ hb_ C1 HD1)
        have C2 := Lib.hid (show Calls Try.prog 33 #[.pointer (some ⟨M, 0, none⟩), .agg #[.int .i64 2, .string ⟨#[110, 111, 110, 101]⟩, .string ⟨#[120]⟩, .slice none 0 0]] (v1) (fun e w' => e = .returned (.int .i64 0) ∧ DKv w.heap.size w' M [] (⟨[], [mW l, mW m, mR ⟨#[110, 111, 110, 101]⟩ ⟨#[120]⟩], 0⟩) ∧ Below w.heap.size (v1) w' ∧ Free [] (v1) w') from (dl_Do w.heap.size M [] ⟨[], [mW l, mW m], 0⟩ _ HD2.out (fun b hb => absurd hb List.not_mem_nil) HB2.out.size (show 0 + 2 ≤ 100000 by omega) ⟨2, ⟨#[110, 111, 110, 101]⟩, ⟨#[120]⟩, none, 0, []⟩ (ints_nil _ _) (Nat.zero_le _) ⟨show (⟨#[110, 111, 110, 101]⟩ : ByteArray).size ≤ maxLen by decide +kernel, show (⟨#[120]⟩ : ByteArray).size ≤ maxLen by decide +kernel, ⟨show (-9223372036854775808 : Int) ≤ 2 by omega, show (2 : Int) ≤ 9223372036854775807 by omega⟩⟩).mono (by rintro e wq ⟨h1, h2, h3⟩; exact ⟨h1.trans (congrArg (fun z => Ending.returned (.int .i64 z)) (right_E r_right1)), (Eq.mp (congrArg (DKv w.heap.size wq M []) (show doW ⟨[], [mW l, mW m], 0⟩ (mR ⟨#[110, 111, 110, 101]⟩ ⟨#[120]⟩) = ⟨[], [mW l, mW m, mR ⟨#[110, 111, 110, 101]⟩ ⟨#[120]⟩], 0⟩ from right_do _ _ _ r_right1 rfl)) h2), h3⟩))
        go_upto_region 12 with (go_at_call 33; (with_reducible refine (C2.out).mono ?_); rintro e v2 ⟨rfl, hd_, hb_, -⟩; have HD3 := Lib.hid hd_; have HB3 := Lib.hid (HB2.out.trans hb_); clear hd_ hb_ C2 HD2)
        have C3 := Lib.hid (show Calls Try.prog 33 #[.pointer (some ⟨M, 0, none⟩), .agg #[.int .i64 2, .string ⟨#[120]⟩, .string ⟨#[120]⟩, .slice none 0 0]] (v2) (fun e w' => e = .returned (.int .i64 0) ∧ DKv w.heap.size w' M [] (⟨[], [mW l, mW m, mR ⟨#[110, 111, 110, 101]⟩ ⟨#[120]⟩, mR ⟨#[120]⟩ ⟨#[120]⟩], 0⟩) ∧ Below w.heap.size (v2) w' ∧ Free [] (v2) w') from (dl_Do w.heap.size M [] ⟨[], [mW l, mW m, mR ⟨#[110, 111, 110, 101]⟩ ⟨#[120]⟩], 0⟩ _ HD3.out (fun b hb => absurd hb List.not_mem_nil) HB3.out.size (show 0 + 3 ≤ 100000 by omega) ⟨2, ⟨#[120]⟩, ⟨#[120]⟩, none, 0, []⟩ (ints_nil _ _) (Nat.zero_le _) ⟨show (⟨#[120]⟩ : ByteArray).size ≤ maxLen by decide +kernel, show (⟨#[120]⟩ : ByteArray).size ≤ maxLen by decide +kernel, ⟨show (-9223372036854775808 : Int) ≤ 2 by omega, show (2 : Int) ≤ 9223372036854775807 by omega⟩⟩).mono (by rintro e wq ⟨h1, h2, h3⟩; exact ⟨h1.trans (congrArg (fun z => Ending.returned (.int .i64 z)) (right_E r_right3)), (Eq.mp (congrArg (DKv w.heap.size wq M []) (show doW ⟨[], [mW l, mW m, mR ⟨#[110, 111, 110, 101]⟩ ⟨#[120]⟩], 0⟩ (mR ⟨#[120]⟩ ⟨#[120]⟩) = ⟨[], [mW l, mW m, mR ⟨#[110, 111, 110, 101]⟩ ⟨#[120]⟩, mR ⟨#[120]⟩ ⟨#[120]⟩], 0⟩ from right_do _ _ _ r_right3 rfl)) h2), h3⟩))
        go_upto_region 13 with (go_at_call 33; (with_reducible refine (C3.out).mono ?_); rintro e v3 ⟨rfl, hd_, hb_, -⟩; have HD4 := Lib.hid hd_; have HB4 := Lib.hid (HB3.out.trans hb_); clear hd_ hb_ C3 HD3)
        replace HD4 := Lib.hid (show DKv w.heap.size v3 M [] (mD ⟨#[120]⟩ l m) from HD4.out)
        have R1 := Lib.hid (show Calls Try.prog 45 #[.pointer (some ⟨M, 0, none⟩), .string ⟨#[120]⟩] v3 (fun e w' => ∃ a c, e = .returned (.tuple #[.slice a m.length c, .int .i64 0]) ∧ OwnI w' v3.heap.size 5 .u8 (.slice a m.length c) m ∧ Below v3.heap.size v3 w') from (dl_Read w.heap.size M [] _ v3 HD4.out HB4.out.size (show 0 + 4 ≤ 100000 by omega) ⟨#[120]⟩ (by decide +kernel)).mono (by rw [look_x, get_one]; rintro e wq ⟨a, c, rfl, _, _, h1, h2, h3⟩; exact ⟨a, c, rfl, h1, h3⟩))
        go_upto_region 14 with (go_at_call 45; (with_reducible refine (R1.out).mono ?_); rintro e w6 ⟨ra, rc, rfl, hi_, hb_⟩; have HD5 := Lib.hid ((HD4.out.more (Y := (Value.slice ra m.length rc).ownBlock.toList) (fun b hb => .inr (own_type hi_ (Option.mem_toList.1 hb)).1)).later hb_); have HO := Lib.hid (show OwnR w6 v3.heap.size 5 1 (.slice ra m.length rc) m.length (m.map (Value.int .u8)) from hi_); have HB5 := Lib.hid (belStep HB4.out hb_); clear hi_ hb_ R1 HD4)
        have HXG := Lib.hid (fun u (B9 : Nat) (hu : OwnR u B9 5 1 (.slice ra m.length rc) m.length (m.map (Value.int .u8))) => show ∀ b ∈ (Value.slice ra m.length rc).ownBlock.toList, b < u.heap.size from fun b hb => (own_type hu (Option.mem_toList.1 hb)).2.1)
        have HXM := Lib.hid (show ∀ b, (Value.slice ra m.length rc).ownBlock = some b → b ∈ (Value.slice ra m.length rc).ownBlock.toList from fun b hb => Option.mem_toList.2 hb)
        obtain ⟨XG, hXG⟩ : ∃ x, (Value.slice ra m.length rc).ownBlock.toList = x := ⟨_, rfl⟩
        rw [hXG] at HD5 HXG HXM
        clear hXG
        have R2 := Lib.hid (show Calls Try.prog 45 #[.pointer (some ⟨M, 0, none⟩), .string ⟨#[120]⟩] w6 (fun e w' => ∃ a, e = .returned (.tuple #[a, .int .i64 0]) ∧ DKv w.heap.size w' M XG (mD ⟨#[120]⟩ l m) ∧ Below w6.heap.size w6 w') from (dl_Read w.heap.size M XG _ w6 HD5.out HB5.out.size (show 0 + 4 ≤ 100000 by omega) ⟨#[120]⟩ (by decide +kernel)).mono (by rw [look_x, get_one]; rintro e wq ⟨a, c, rfl, h1, _, _, h2, h3⟩; exact ⟨_, rfl, h2, h3⟩))
        go_upto_region 15 with (go_at_call 45; (with_reducible refine (R2.out).mono ?_); rintro e w7 ⟨rv, rfl, hd_, hb_⟩; have HD6 := Lib.hid hd_; replace HO := Lib.hid (OwnR.later HO.out hb_); have HB6 := Lib.hid (belStep HB5.out hb_); clear hd_ hb_ R2 HD5)
        have R3 := Lib.hid (show Calls Try.prog 44 #[.pointer (some ⟨M, 0, none⟩)] w7 (fun e w' => ∃ a c, e = .returned (.slice a 1 c) ∧ DKv w.heap.size w' M XG (mD ⟨#[120]⟩ l m) ∧ Below w7.heap.size w7 w') from (dl_Names w.heap.size M XG _ w7 HD6.out HB6.out.size (show 0 + 4 ≤ 100000 by omega) List.Pairwise.nil).mono (by rw [look_x]; rintro e wq ⟨v, rfl, h1, h2, h3⟩; obtain ⟨a, c, rfl, _⟩ := rowR_of_own h1; exact ⟨a, c, rfl, h2, h3⟩))
        go_upto_region 16 with (go_at_call 44; (with_reducible refine (R3.out).mono ?_); rintro e w8 ⟨na, nc, rfl, hd_, hb_⟩; have HD4 := Lib.hid (show DKv w.heap.size w8 M XG ⟨[], [mW l, mW m, mR ⟨#[110, 111, 110, 101]⟩ ⟨#[120]⟩, mR ⟨#[120]⟩ ⟨#[120]⟩], 0⟩ from hd_); replace HO := Lib.hid (OwnR.later HO.out hb_); have HB4 := Lib.hid (belStep HB6.out hb_); clear hd_ hb_ R3 HD6)
        have C4 := Lib.hid (show Calls Try.prog 33 #[.pointer (some ⟨M, 0, none⟩), .agg #[.int .i64 3, .string ⟨#[120]⟩, .string ⟨#[]⟩, .slice none 0 0]] (w8) (fun e w' => e = .returned (.int .i64 0) ∧ DKv w.heap.size w' M XG (⟨[], [mW l, mW m, mR ⟨#[110, 111, 110, 101]⟩ ⟨#[120]⟩, mR ⟨#[120]⟩ ⟨#[120]⟩, mV ⟨#[120]⟩], 0⟩) ∧ Below w.heap.size (w8) w' ∧ Free XG (w8) w') from (dl_Do w.heap.size M XG ⟨[], [mW l, mW m, mR ⟨#[110, 111, 110, 101]⟩ ⟨#[120]⟩, mR ⟨#[120]⟩ ⟨#[120]⟩], 0⟩ _ HD4.out (HXG.out _ _ HO.out) HB4.out.size (show 0 + 4 ≤ 100000 by omega) ⟨3, ⟨#[120]⟩, ⟨#[]⟩, none, 0, []⟩ (ints_nil _ _) (Nat.zero_le _) ⟨show (⟨#[120]⟩ : ByteArray).size ≤ maxLen by decide +kernel, show (⟨#[]⟩ : ByteArray).size ≤ maxLen by decide +kernel, ⟨show (-9223372036854775808 : Int) ≤ 3 by omega, show (3 : Int) ≤ 9223372036854775807 by omega⟩⟩).mono (by rintro e wq ⟨h1, h2, h3⟩; exact ⟨h1.trans (congrArg (fun z => Ending.returned (.int .i64 z)) (right_E v_right2)), (Eq.mp (congrArg (DKv w.heap.size wq M XG) (show doW ⟨[], [mW l, mW m, mR ⟨#[110, 111, 110, 101]⟩ ⟨#[120]⟩, mR ⟨#[120]⟩ ⟨#[120]⟩], 0⟩ (mV ⟨#[120]⟩) = ⟨[], [mW l, mW m, mR ⟨#[110, 111, 110, 101]⟩ ⟨#[120]⟩, mR ⟨#[120]⟩ ⟨#[120]⟩, mV ⟨#[120]⟩], 0⟩ from right_do _ _ _ v_right2 rfl)) h2), h3⟩))
        go_upto_region 17 with (go_at_call 33; (with_reducible refine (C4.out).mono ?_); rintro e v4 ⟨rfl, hd_, hb_, hf_⟩; have HD5 := Lib.hid hd_; have HB5 := Lib.hid (HB4.out.trans hb_); replace HO := Lib.hid (Free.own hf_ HO.out HXM.out); clear hd_ hb_ hf_ C4 HD4)
        have C5 := Lib.hid (show Calls Try.prog 33 #[.pointer (some ⟨M, 0, none⟩), .agg #[.int .i64 3, .string ⟨#[120]⟩, .string ⟨#[]⟩, .slice none 0 0]] (v4) (fun e w' => e = .returned (.int .i64 0) ∧ DKv w.heap.size w' M XG (⟨[], [mW l, mW m, mR ⟨#[110, 111, 110, 101]⟩ ⟨#[120]⟩, mR ⟨#[120]⟩ ⟨#[120]⟩, mV ⟨#[120]⟩, mV ⟨#[120]⟩], 0⟩) ∧ Below w.heap.size (v4) w' ∧ Free XG (v4) w') from (dl_Do w.heap.size M XG ⟨[], [mW l, mW m, mR ⟨#[110, 111, 110, 101]⟩ ⟨#[120]⟩, mR ⟨#[120]⟩ ⟨#[120]⟩, mV ⟨#[120]⟩], 0⟩ _ HD5.out (HXG.out _ _ HO.out) HB5.out.size (show 0 + 5 ≤ 100000 by omega) ⟨3, ⟨#[120]⟩, ⟨#[]⟩, none, 0, []⟩ (ints_nil _ _) (Nat.zero_le _) ⟨show (⟨#[120]⟩ : ByteArray).size ≤ maxLen by decide +kernel, show (⟨#[]⟩ : ByteArray).size ≤ maxLen by decide +kernel, ⟨show (-9223372036854775808 : Int) ≤ 3 by omega, show (3 : Int) ≤ 9223372036854775807 by omega⟩⟩).mono (by rintro e wq ⟨h1, h2, h3⟩; exact ⟨h1.trans (congrArg (fun z => Ending.returned (.int .i64 z)) (right_E v_right2)), (Eq.mp (congrArg (DKv w.heap.size wq M XG) (show doW ⟨[], [mW l, mW m, mR ⟨#[110, 111, 110, 101]⟩ ⟨#[120]⟩, mR ⟨#[120]⟩ ⟨#[120]⟩, mV ⟨#[120]⟩], 0⟩ (mV ⟨#[120]⟩) = ⟨[], [mW l, mW m, mR ⟨#[110, 111, 110, 101]⟩ ⟨#[120]⟩, mR ⟨#[120]⟩ ⟨#[120]⟩, mV ⟨#[120]⟩, mV ⟨#[120]⟩], 0⟩ from right_do _ _ _ v_right2 rfl)) h2), h3⟩))
        go_upto_region 18 with (go_at_call 33; (with_reducible refine (C5.out).mono ?_); rintro e v5 ⟨rfl, hd_, hb_, hf_⟩; have HD6 := Lib.hid hd_; have HB6 := Lib.hid (HB5.out.trans hb_); replace HO := Lib.hid (Free.own hf_ HO.out HXM.out); clear hd_ hb_ hf_ C5 HD5)
        replace HD6 := Lib.hid (show DKv w.heap.size v5 M XG (mE ⟨#[120]⟩ l m) from HD6.out)
        obtain ⟨ra2, rc2, e2, hi⟩ := ints_of_own (show OwnI v5 v3.heap.size 5 .u8 (.slice ra m.length rc) m from HO.out) HM.out.2
        simp only [Value.slice.injEq, true_and] at e2
        obtain ⟨rfl, rfl⟩ := e2
        have hv1 := conv_str hi
        have hv2 := conv_str (HM.out.later HB6.out)
        clear hi
        have e9 := beq_self_eq_true (strOfNums m).toList
        generalize strOfNums m = sx at *
        have R4 := Lib.hid (show Calls Try.prog 44 #[.pointer (some ⟨M, 0, none⟩)] v5 (fun e w' => ∃ a c, e = .returned (.slice a 0 c) ∧ DKv w.heap.size w' M XG (mE ⟨#[120]⟩ l m) ∧ Below v5.heap.size v5 w') from (dl_Names w.heap.size M XG _ v5 HD6.out HB6.out.size (show 0 + 6 ≤ 100000 by omega) List.Pairwise.nil).mono (by rw [lookE_x]; rintro e wq ⟨v, rfl, h1, h2, h3⟩; obtain ⟨a, c, rfl, _⟩ := rowR_of_own h1; exact ⟨a, c, rfl, h2, h3⟩))
        have R5 := Lib.hid (fun u (hu : DKv w.heap.size u M XG (mE ⟨#[120]⟩ l m)) (hs : w.heap.size ≤ u.heap.size) => show Calls Try.prog 41 #[.pointer (some ⟨M, 0, none⟩)] u (fun e w' => e = .returned (.int .i64 ((6 : Nat) : Int)) ∧ w' = u) from dl_Open w.heap.size M XG _ u hu hs)
        have HL9 := hl4
        go_wp2_with (first | (go_at_call 44; (with_reducible refine (R4.out).mono ?_); rintro e w9 ⟨na9, nc9, rfl, hd_, hb_⟩; have HD9 := Lib.hid hd_; have HB9 := Lib.hid (belStep HB6.out hb_); clear hd_ hb_) | (go_at_call 41; (with_reducible refine (R5.out _ HD9.out HB9.out.size).mono ?_); rintro e w8x ⟨rfl, hz9⟩; have hz8 := hz9.symm; subst hz8))
        go_ret
        exact ⟨by first | rfl | simp, HB9.out⟩
      | false =>
        go_enter Try.func10, Try.ntmps10
        go_upto_region 9 with (first | (go_at_call 30; (with_reducible refine (awake_10 _).mono ?_); rintro e wa ⟨rfl, ha⟩; replace hbel := belStep hbel ha; clear ha) | (go_at_call 32; (with_reducible refine (dl_New w.heap.size [] _ (fun b hb => absurd hb List.not_mem_nil) hbel.size).mono ?_); rintro e w1 ⟨M, rfl, hd_, hb_⟩; have HD0 := Lib.hid hd_; have HB0 := Lib.hid (hbel.trans hb_); clear hd_ hb_))
        clear hbel hw
        have C0 := Lib.hid (show Calls Try.prog 33 #[.pointer (some ⟨M, 0, none⟩), .agg #[.int .i64 1, .string ⟨#[120]⟩, .string ⟨#[]⟩, .slice a l.length cap]] (w1) (fun e w' => e = .returned (.int .i64 0) ∧ DKv w.heap.size w' M [] (⟨[], [mW l], 0⟩) ∧ Below w.heap.size (w1) w' ∧ Free [] (w1) w') from (dl_Do w.heap.size M [] ⟨[], [], 0⟩ _ HD0.out (fun b hb => absurd hb List.not_mem_nil) HB0.out.size (show 0 + 0 ≤ 100000 by omega) ⟨1, ⟨#[120]⟩, ⟨#[]⟩, a, cap, l⟩ (HL.out.later HB0.out) (show l.length ≤ 1000000 by omega) ⟨show (⟨#[120]⟩ : ByteArray).size ≤ maxLen by decide +kernel, show (⟨#[]⟩ : ByteArray).size ≤ maxLen by decide +kernel, ⟨show (-9223372036854775808 : Int) ≤ 1 by omega, show (1 : Int) ≤ 9223372036854775807 by omega⟩⟩).mono (by rintro e wq ⟨h1, h2, h3⟩; exact ⟨h1.trans (congrArg (fun z => Ending.returned (.int .i64 z)) (right_E (w_right l))), (Eq.mp (congrArg (DKv w.heap.size wq M []) (show doW ⟨[], [], 0⟩ (mW l) = ⟨[], [mW l], 0⟩ from right_do _ _ _ (w_right l) rfl)) h2), h3⟩))
        go_upto_region 10 with (go_at_call 33; (with_reducible refine (C0.out).mono ?_); rintro e v0 ⟨rfl, hd_, hb_, -⟩; have HD1 := Lib.hid hd_; have HB1 := Lib.hid (HB0.out.trans hb_); clear hd_ hb_ C0 HD0)
        have C1 := Lib.hid (show Calls Try.prog 33 #[.pointer (some ⟨M, 0, none⟩), .agg #[.int .i64 1, .string ⟨#[120]⟩, .string ⟨#[]⟩, .slice b m.length lc]] (v0) (fun e w' => e = .returned (.int .i64 0) ∧ DKv w.heap.size w' M [] (⟨[], [mW l, mW m], 0⟩) ∧ Below w.heap.size (v0) w' ∧ Free [] (v0) w') from (dl_Do w.heap.size M [] ⟨[], [mW l], 0⟩ _ HD1.out (fun b hb => absurd hb List.not_mem_nil) HB1.out.size (show 0 + 1 ≤ 100000 by omega) ⟨1, ⟨#[120]⟩, ⟨#[]⟩, b, lc, m⟩ (HM.out.later HB1.out) (show m.length ≤ 1000000 by omega) ⟨show (⟨#[120]⟩ : ByteArray).size ≤ maxLen by decide +kernel, show (⟨#[]⟩ : ByteArray).size ≤ maxLen by decide +kernel, ⟨show (-9223372036854775808 : Int) ≤ 1 by omega, show (1 : Int) ≤ 9223372036854775807 by omega⟩⟩).mono (by rintro e wq ⟨h1, h2, h3⟩; exact ⟨h1.trans (congrArg (fun z => Ending.returned (.int .i64 z)) (right_E (w_right m))), (Eq.mp (congrArg (DKv w.heap.size wq M []) (show doW ⟨[], [mW l], 0⟩ (mW m) = ⟨[], [mW l, mW m], 0⟩ from right_do _ _ _ (w_right m) rfl)) h2), h3⟩))
        go_upto_region 11 with (go_at_call 33; (with_reducible refine (C1.out).mono ?_); rintro e v1 ⟨rfl, hd_, hb_, -⟩; have HD2 := Lib.hid hd_; have HB2 := Lib.hid (HB1.out.trans hb_); clear hd_ hb_ C1 HD1)
        have C2 := Lib.hid (show Calls Try.prog 33 #[.pointer (some ⟨M, 0, none⟩), .agg #[.int .i64 2, .string ⟨#[110, 111, 110, 101]⟩, .string ⟨#[120]⟩, .slice none 0 0]] (v1) (fun e w' => e = .returned (.int .i64 0) ∧ DKv w.heap.size w' M [] (⟨[], [mW l, mW m, mR ⟨#[110, 111, 110, 101]⟩ ⟨#[120]⟩], 0⟩) ∧ Below w.heap.size (v1) w' ∧ Free [] (v1) w') from (dl_Do w.heap.size M [] ⟨[], [mW l, mW m], 0⟩ _ HD2.out (fun b hb => absurd hb List.not_mem_nil) HB2.out.size (show 0 + 2 ≤ 100000 by omega) ⟨2, ⟨#[110, 111, 110, 101]⟩, ⟨#[120]⟩, none, 0, []⟩ (ints_nil _ _) (Nat.zero_le _) ⟨show (⟨#[110, 111, 110, 101]⟩ : ByteArray).size ≤ maxLen by decide +kernel, show (⟨#[120]⟩ : ByteArray).size ≤ maxLen by decide +kernel, ⟨show (-9223372036854775808 : Int) ≤ 2 by omega, show (2 : Int) ≤ 9223372036854775807 by omega⟩⟩).mono (by rintro e wq ⟨h1, h2, h3⟩; exact ⟨h1.trans (congrArg (fun z => Ending.returned (.int .i64 z)) (right_E r_right1)), (Eq.mp (congrArg (DKv w.heap.size wq M []) (show doW ⟨[], [mW l, mW m], 0⟩ (mR ⟨#[110, 111, 110, 101]⟩ ⟨#[120]⟩) = ⟨[], [mW l, mW m, mR ⟨#[110, 111, 110, 101]⟩ ⟨#[120]⟩], 0⟩ from right_do _ _ _ r_right1 rfl)) h2), h3⟩))
        go_upto_region 12 with (go_at_call 33; (with_reducible refine (C2.out).mono ?_); rintro e v2 ⟨rfl, hd_, hb_, -⟩; have HD3 := Lib.hid hd_; have HB3 := Lib.hid (HB2.out.trans hb_); clear hd_ hb_ C2 HD2)
        have C3 := Lib.hid (show Calls Try.prog 33 #[.pointer (some ⟨M, 0, none⟩), .agg #[.int .i64 2, .string ⟨#[120]⟩, .string ⟨#[121]⟩, .slice none 0 0]] (v2) (fun e w' => e = .returned (.int .i64 0) ∧ DKv w.heap.size w' M [] (⟨[], [mW l, mW m, mR ⟨#[110, 111, 110, 101]⟩ ⟨#[120]⟩, mR ⟨#[120]⟩ ⟨#[121]⟩], 0⟩) ∧ Below w.heap.size (v2) w' ∧ Free [] (v2) w') from (dl_Do w.heap.size M [] ⟨[], [mW l, mW m, mR ⟨#[110, 111, 110, 101]⟩ ⟨#[120]⟩], 0⟩ _ HD3.out (fun b hb => absurd hb List.not_mem_nil) HB3.out.size (show 0 + 3 ≤ 100000 by omega) ⟨2, ⟨#[120]⟩, ⟨#[121]⟩, none, 0, []⟩ (ints_nil _ _) (Nat.zero_le _) ⟨show (⟨#[120]⟩ : ByteArray).size ≤ maxLen by decide +kernel, show (⟨#[121]⟩ : ByteArray).size ≤ maxLen by decide +kernel, ⟨show (-9223372036854775808 : Int) ≤ 2 by omega, show (2 : Int) ≤ 9223372036854775807 by omega⟩⟩).mono (by rintro e wq ⟨h1, h2, h3⟩; exact ⟨h1.trans (congrArg (fun z => Ending.returned (.int .i64 z)) (right_E r_right2)), (Eq.mp (congrArg (DKv w.heap.size wq M []) (show doW ⟨[], [mW l, mW m, mR ⟨#[110, 111, 110, 101]⟩ ⟨#[120]⟩], 0⟩ (mR ⟨#[120]⟩ ⟨#[121]⟩) = ⟨[], [mW l, mW m, mR ⟨#[110, 111, 110, 101]⟩ ⟨#[120]⟩, mR ⟨#[120]⟩ ⟨#[121]⟩], 0⟩ from right_do _ _ _ r_right2 rfl)) h2), h3⟩))
        go_upto_region 13 with (go_at_call 33; (with_reducible refine (C3.out).mono ?_); rintro e v3 ⟨rfl, hd_, hb_, -⟩; have HD4 := Lib.hid hd_; have HB4 := Lib.hid (HB3.out.trans hb_); clear hd_ hb_ C3 HD3)
        replace HD4 := Lib.hid (show DKv w.heap.size v3 M [] (mD ⟨#[121]⟩ l m) from HD4.out)
        have R1 := Lib.hid (show Calls Try.prog 45 #[.pointer (some ⟨M, 0, none⟩), .string ⟨#[121]⟩] v3 (fun e w' => ∃ a c, e = .returned (.tuple #[.slice a m.length c, .int .i64 0]) ∧ OwnI w' v3.heap.size 5 .u8 (.slice a m.length c) m ∧ Below v3.heap.size v3 w') from (dl_Read w.heap.size M [] _ v3 HD4.out HB4.out.size (show 0 + 4 ≤ 100000 by omega) ⟨#[121]⟩ (by decide +kernel)).mono (by rw [look_y, get_one]; rintro e wq ⟨a, c, rfl, _, _, h1, h2, h3⟩; exact ⟨a, c, rfl, h1, h3⟩))
        go_upto_region 14 with (go_at_call 45; (with_reducible refine (R1.out).mono ?_); rintro e w6 ⟨ra, rc, rfl, hi_, hb_⟩; have HD5 := Lib.hid ((HD4.out.more (Y := (Value.slice ra m.length rc).ownBlock.toList) (fun b hb => .inr (own_type hi_ (Option.mem_toList.1 hb)).1)).later hb_); have HO := Lib.hid (show OwnR w6 v3.heap.size 5 1 (.slice ra m.length rc) m.length (m.map (Value.int .u8)) from hi_); have HB5 := Lib.hid (belStep HB4.out hb_); clear hi_ hb_ R1 HD4)
        have HXG := Lib.hid (fun u (B9 : Nat) (hu : OwnR u B9 5 1 (.slice ra m.length rc) m.length (m.map (Value.int .u8))) => show ∀ b ∈ (Value.slice ra m.length rc).ownBlock.toList, b < u.heap.size from fun b hb => (own_type hu (Option.mem_toList.1 hb)).2.1)
        have HXM := Lib.hid (show ∀ b, (Value.slice ra m.length rc).ownBlock = some b → b ∈ (Value.slice ra m.length rc).ownBlock.toList from fun b hb => Option.mem_toList.2 hb)
        obtain ⟨XG, hXG⟩ : ∃ x, (Value.slice ra m.length rc).ownBlock.toList = x := ⟨_, rfl⟩
        rw [hXG] at HD5 HXG HXM
        clear hXG
        have R2 := Lib.hid (show Calls Try.prog 45 #[.pointer (some ⟨M, 0, none⟩), .string ⟨#[120]⟩] w6 (fun e w' => ∃ a, e = .returned (.tuple #[a, .int .i64 4]) ∧ DKv w.heap.size w' M XG (mD ⟨#[121]⟩ l m) ∧ Below w6.heap.size w6 w') from (dl_Read w.heap.size M XG _ w6 HD5.out HB5.out.size (show 0 + 4 ≤ 100000 by omega) ⟨#[120]⟩ (by decide +kernel)).mono (by rw [look_y, get_no yx]; rintro e wq ⟨a, c, rfl, h1, _, _, h2, h3⟩; exact ⟨_, rfl, h2, h3⟩))
        go_upto_region 15 with (go_at_call 45; (with_reducible refine (R2.out).mono ?_); rintro e w7 ⟨rv, rfl, hd_, hb_⟩; have HD6 := Lib.hid hd_; replace HO := Lib.hid (OwnR.later HO.out hb_); have HB6 := Lib.hid (belStep HB5.out hb_); clear hd_ hb_ R2 HD5)
        have R3 := Lib.hid (show Calls Try.prog 44 #[.pointer (some ⟨M, 0, none⟩)] w7 (fun e w' => ∃ a c, e = .returned (.slice a 1 c) ∧ DKv w.heap.size w' M XG (mD ⟨#[121]⟩ l m) ∧ Below w7.heap.size w7 w') from (dl_Names w.heap.size M XG _ w7 HD6.out HB6.out.size (show 0 + 4 ≤ 100000 by omega) List.Pairwise.nil).mono (by rw [look_y]; rintro e wq ⟨v, rfl, h1, h2, h3⟩; obtain ⟨a, c, rfl, _⟩ := rowR_of_own h1; exact ⟨a, c, rfl, h2, h3⟩))
        go_upto_region 16 with (go_at_call 44; (with_reducible refine (R3.out).mono ?_); rintro e w8 ⟨na, nc, rfl, hd_, hb_⟩; have HD4 := Lib.hid (show DKv w.heap.size w8 M XG ⟨[], [mW l, mW m, mR ⟨#[110, 111, 110, 101]⟩ ⟨#[120]⟩, mR ⟨#[120]⟩ ⟨#[121]⟩], 0⟩ from hd_); replace HO := Lib.hid (OwnR.later HO.out hb_); have HB4 := Lib.hid (belStep HB6.out hb_); clear hd_ hb_ R3 HD6)
        have C4 := Lib.hid (show Calls Try.prog 33 #[.pointer (some ⟨M, 0, none⟩), .agg #[.int .i64 3, .string ⟨#[121]⟩, .string ⟨#[]⟩, .slice none 0 0]] (w8) (fun e w' => e = .returned (.int .i64 0) ∧ DKv w.heap.size w' M XG (⟨[], [mW l, mW m, mR ⟨#[110, 111, 110, 101]⟩ ⟨#[120]⟩, mR ⟨#[120]⟩ ⟨#[121]⟩, mV ⟨#[121]⟩], 0⟩) ∧ Below w.heap.size (w8) w' ∧ Free XG (w8) w') from (dl_Do w.heap.size M XG ⟨[], [mW l, mW m, mR ⟨#[110, 111, 110, 101]⟩ ⟨#[120]⟩, mR ⟨#[120]⟩ ⟨#[121]⟩], 0⟩ _ HD4.out (HXG.out _ _ HO.out) HB4.out.size (show 0 + 4 ≤ 100000 by omega) ⟨3, ⟨#[121]⟩, ⟨#[]⟩, none, 0, []⟩ (ints_nil _ _) (Nat.zero_le _) ⟨show (⟨#[121]⟩ : ByteArray).size ≤ maxLen by decide +kernel, show (⟨#[]⟩ : ByteArray).size ≤ maxLen by decide +kernel, ⟨show (-9223372036854775808 : Int) ≤ 3 by omega, show (3 : Int) ≤ 9223372036854775807 by omega⟩⟩).mono (by rintro e wq ⟨h1, h2, h3⟩; exact ⟨h1.trans (congrArg (fun z => Ending.returned (.int .i64 z)) (right_E v_right1)), (Eq.mp (congrArg (DKv w.heap.size wq M XG) (show doW ⟨[], [mW l, mW m, mR ⟨#[110, 111, 110, 101]⟩ ⟨#[120]⟩, mR ⟨#[120]⟩ ⟨#[121]⟩], 0⟩ (mV ⟨#[121]⟩) = ⟨[], [mW l, mW m, mR ⟨#[110, 111, 110, 101]⟩ ⟨#[120]⟩, mR ⟨#[120]⟩ ⟨#[121]⟩, mV ⟨#[121]⟩], 0⟩ from right_do _ _ _ v_right1 rfl)) h2), h3⟩))
        go_upto_region 17 with (go_at_call 33; (with_reducible refine (C4.out).mono ?_); rintro e v4 ⟨rfl, hd_, hb_, hf_⟩; have HD5 := Lib.hid hd_; have HB5 := Lib.hid (HB4.out.trans hb_); replace HO := Lib.hid (Free.own hf_ HO.out HXM.out); clear hd_ hb_ hf_ C4 HD4)
        have C5 := Lib.hid (show Calls Try.prog 33 #[.pointer (some ⟨M, 0, none⟩), .agg #[.int .i64 3, .string ⟨#[121]⟩, .string ⟨#[]⟩, .slice none 0 0]] (v4) (fun e w' => e = .returned (.int .i64 0) ∧ DKv w.heap.size w' M XG (⟨[], [mW l, mW m, mR ⟨#[110, 111, 110, 101]⟩ ⟨#[120]⟩, mR ⟨#[120]⟩ ⟨#[121]⟩, mV ⟨#[121]⟩, mV ⟨#[121]⟩], 0⟩) ∧ Below w.heap.size (v4) w' ∧ Free XG (v4) w') from (dl_Do w.heap.size M XG ⟨[], [mW l, mW m, mR ⟨#[110, 111, 110, 101]⟩ ⟨#[120]⟩, mR ⟨#[120]⟩ ⟨#[121]⟩, mV ⟨#[121]⟩], 0⟩ _ HD5.out (HXG.out _ _ HO.out) HB5.out.size (show 0 + 5 ≤ 100000 by omega) ⟨3, ⟨#[121]⟩, ⟨#[]⟩, none, 0, []⟩ (ints_nil _ _) (Nat.zero_le _) ⟨show (⟨#[121]⟩ : ByteArray).size ≤ maxLen by decide +kernel, show (⟨#[]⟩ : ByteArray).size ≤ maxLen by decide +kernel, ⟨show (-9223372036854775808 : Int) ≤ 3 by omega, show (3 : Int) ≤ 9223372036854775807 by omega⟩⟩).mono (by rintro e wq ⟨h1, h2, h3⟩; exact ⟨h1.trans (congrArg (fun z => Ending.returned (.int .i64 z)) (right_E v_right1)), (Eq.mp (congrArg (DKv w.heap.size wq M XG) (show doW ⟨[], [mW l, mW m, mR ⟨#[110, 111, 110, 101]⟩ ⟨#[120]⟩, mR ⟨#[120]⟩ ⟨#[121]⟩, mV ⟨#[121]⟩], 0⟩ (mV ⟨#[121]⟩) = ⟨[], [mW l, mW m, mR ⟨#[110, 111, 110, 101]⟩ ⟨#[120]⟩, mR ⟨#[120]⟩ ⟨#[121]⟩, mV ⟨#[121]⟩, mV ⟨#[121]⟩], 0⟩ from right_do _ _ _ v_right1 rfl)) h2), h3⟩))
        go_upto_region 18 with (go_at_call 33; (with_reducible refine (C5.out).mono ?_); rintro e v5 ⟨rfl, hd_, hb_, hf_⟩; have HD6 := Lib.hid hd_; have HB6 := Lib.hid (HB5.out.trans hb_); replace HO := Lib.hid (Free.own hf_ HO.out HXM.out); clear hd_ hb_ hf_ C5 HD5)
        replace HD6 := Lib.hid (show DKv w.heap.size v5 M XG (mE ⟨#[121]⟩ l m) from HD6.out)
        obtain ⟨ra2, rc2, e2, hi⟩ := ints_of_own (show OwnI v5 v3.heap.size 5 .u8 (.slice ra m.length rc) m from HO.out) HM.out.2
        simp only [Value.slice.injEq, true_and] at e2
        obtain ⟨rfl, rfl⟩ := e2
        have hv1 := conv_str hi
        have hv2 := conv_str (HM.out.later HB6.out)
        clear hi
        have e9 := beq_self_eq_true (strOfNums m).toList
        generalize strOfNums m = sx at *
        have R4 := Lib.hid (show Calls Try.prog 44 #[.pointer (some ⟨M, 0, none⟩)] v5 (fun e w' => ∃ a c, e = .returned (.slice a 0 c) ∧ DKv w.heap.size w' M XG (mE ⟨#[121]⟩ l m) ∧ Below v5.heap.size v5 w') from (dl_Names w.heap.size M XG _ v5 HD6.out HB6.out.size (show 0 + 6 ≤ 100000 by omega) List.Pairwise.nil).mono (by rw [lookE_y]; rintro e wq ⟨v, rfl, h1, h2, h3⟩; obtain ⟨a, c, rfl, _⟩ := rowR_of_own h1; exact ⟨a, c, rfl, h2, h3⟩))
        have R5 := Lib.hid (fun u (hu : DKv w.heap.size u M XG (mE ⟨#[121]⟩ l m)) (hs : w.heap.size ≤ u.heap.size) => show Calls Try.prog 41 #[.pointer (some ⟨M, 0, none⟩)] u (fun e w' => e = .returned (.int .i64 ((6 : Nat) : Int)) ∧ w' = u) from dl_Open w.heap.size M XG _ u hu hs)
        have HL9 := hl4
        go_wp2_with (first | (go_at_call 44; (with_reducible refine (R4.out).mono ?_); rintro e w9 ⟨na9, nc9, rfl, hd_, hb_⟩; have HD9 := Lib.hid hd_; have HB9 := Lib.hid (belStep HB6.out hb_); clear hd_ hb_) | (go_at_call 41; (with_reducible refine (R5.out _ HD9.out HB9.out.size).mono ?_); rintro e w8x ⟨rfl, hz9⟩; have hz8 := hz9.symm; subst hz8))
        go_ret
        exact ⟨by first | rfl | simp, HB9.out⟩

set_option maxRecDepth 100000 in
theorem lifted (os : Os) (started : os.Started) (H : Type) (enc : TypeId × Value → H) :
    ReturnsInHanded {} Try.checked os 10 .any (Rows.diskMovesSpec.pre6 enc Try.prog Try.f10 Rows.diskMovesRow.domain false) (Rows.diskMovesSpec.post enc Try.prog Try.f10 false true false false) := by
  refine returnsInHanded_of_change (C := Try.checked) own started (by kernel_rfl) Try.func10
    (ChangeSpec.witness6 (enc := enc) (C := Try.checked) false ⟨#[], #[.slice none 0 0, .slice none 0 0, .bool false], []⟩ 8 (by kernel_rfl) (by kernel_rfl) (by kernel_rfl) (by kernel_rfl)) ?_
  intro W base args ds gs before hval0 hW hcnd _
  have hval : ∀ (j : Nat) t v, Try.f10.params[j]? = some t → args[j]? = some v → Value.okWide Try.prog W .any base t v := hval0
  have hW' := hW
  obtain ⟨p, q, hA0, hV, rfl, hfz, hnd⟩ := hW
  have hA : DataW.TrodAll enc Try.prog W 0 (fun _ => true) true Try.f10.params.toList args.toList ds p := hA0
  rw [Try.params10] at hA hval
  obtain ⟨v0, vs0, d0, ds0, p0, q0, hargs, rfl, rfl, h0, r0⟩ := trodAll_cons hA
  obtain ⟨v1, vs1, d1, ds1, p1, q1, rfl, rfl, rfl, h1, r1⟩ := trodAll_cons r0
  obtain ⟨v2, vs2, d2, ds2, p2, q2, rfl, rfl, rfl, h2, r2⟩ := trodAll_cons r1
  obtain ⟨rfl, rfl, rfl⟩ := trodAll_nil r2
  obtain rfl : args = #[v0, v1, v2] := by cases args; simp_all
  obtain ⟨rfl, rfl⟩ := trodVars_none hV
  have k0 := h0
  have lt0 : ∀ x ∈ p0, x.block < W.heap.size := by obtain ⟨m, hm⟩ := k0; exact DataW.trod_lt m _ _ _ hm
  have o0 : Value.okWide Try.prog W .any base 68 v0 := hval 0 68 v0 rfl rfl
  obtain ⟨a0, len0, cap0, rfl⟩ := okWide_slice Try.underlying68 o0
  obtain ⟨z0, w0⟩ : ∃ zs, Ints .u8 W a0 len0 cap0 zs := ints_of_trod Try.underlying68 Try.underlying5 (by kernel_rfl) h0
  have k1 := h1
  have lt1 : ∀ x ∈ p1, x.block < W.heap.size := by obtain ⟨m, hm⟩ := k1; exact DataW.trod_lt m _ _ _ hm
  have o1 : Value.okWide Try.prog W .any base 68 v1 := hval 1 68 v1 rfl rfl
  obtain ⟨a1, len1, cap1, rfl⟩ := okWide_slice Try.underlying68 o1
  obtain ⟨z1, w1⟩ : ∃ zs, Ints .u8 W a1 len1 cap1 zs := ints_of_trod Try.underlying68 Try.underlying5 (by kernel_rfl) h1
  have k2 := h2
  have lt2 : ∀ x ∈ p2, x.block < W.heap.size := by obtain ⟨m, hm⟩ := k2; exact DataW.trod_lt m _ _ _ hm
  have o2 : Value.okWide Try.prog W .any base 4 v2 := hval 2 4 v2 rfl rfl
  obtain ⟨a2, rfl, rfl, rfl⟩ := open_bool Try.underlying4 o2 h2
  clear hA0 hval0
  refine (walk a0 len0 cap0 z0 a1 len1 cap1 z1 a2 W w0 w1).mono fun e W' ⟨he, bel⟩ => ?_
  subst he
  exact ⟨_, rfl, _, _, _, [], _, [], hW', trodAll_mk1 (shut_bool Try.underlying4 _), (trodAll_cons_mk (Below.trod laidOut (by kernel_rfl) (of_decide_eq_true (by kernel_rfl)) k0 bel lt0) (trodAll_cons_mk (Below.trod laidOut (by kernel_rfl) (of_decide_eq_true (by kernel_rfl)) k1 bel lt1) (trodAll_cons_mk (Below.trod laidOut (by kernel_rfl) (of_decide_eq_true (by kernel_rfl)) k2 bel lt2) trodAll_mk0))), rfl, bel.frame _, fun h => by cases h⟩

theorem over : Rows.diskMovesRow.holds Try.pinned (OpenSpec.ofChange Rows.diskMovesSpec) :=
  OpenClaim.holds_of_wide 10 Try.f10 rfl rfl rfl rfl rfl rfl rfl ⟨rfl, rfl, rfl, rfl, rfl⟩ rfl rfl rfl rfl rfl (by kernel_rfl) Try.func10 (by kernel_rfl)
    (of_decide_eq_true (by kernel_rfl)) (by unfold Func.isWrapper; first | (rw [if_pos (by decide +kernel)]; kernel_rfl) | (rw [if_neg (by decide +kernel)]; exact ⟨rfl, rfl⟩))
    (fun os started H enc _ => lifted os started H enc)

/-- The statement. -/
theorem proved : Rows.DiskMovesSaid := over
#print axioms proved

end Go.Proofs.Ytcnjcldfbidkmaa.diskMoves
