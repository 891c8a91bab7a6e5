
/- thresh.digits, strings.Cut at one byte: contracts. thresh.word, Signal, limit: contracts. -/
import Derived.Test.YtcaenbobfneejaaGreatDoorQuantA
import Derived.Test.YtcaenbobfneejaaGreatDoorQuantCard
import Derived.Test.YtcaenbobfneejaaGreatDoorShelfT
namespace Go.Proofs.YtcaenbobfneejaaGreatDoor
open Go.RowKit
set_option linter.unusedVariables false
set_option linter.unusedSimpArgs false

theorem var_later {w w' : World} {n : String} {cs : Array Value} (h : w.var? Tryz.prog n = some cs) (hb : Below w.heap.size w w') : w'.var? Tryz.prog n = some cs := by
  unfold World.var? at *
  cases hg : Tryz.prog.globalNamed n with
  | none => simp [hg] at h
  | some g =>
    simp only [hg, Option.bind_some] at h ⊢
    have hlt : g < w.heap.size := by
      rcases Nat.lt_or_ge g w.heap.size with h' | h'
      · exact h'
      · rw [Array.getElem?_eq_none h'] at h; simp at h
    rw [hb.block g hlt]
    exact h
/-- What the library's variables hold. -/
structure Env (w : World) : Prop where
  tab : Tab w
  ml : ∃ m : Int, w.cell? ⟨0, 0, none⟩ = some (.int .i64 m)
  sy : ∃ (tp : TypeId) (p : Value), w.var? Tryz.prog "strconv.ErrSyntax" = some #[.iface tp p]
  ra : ∃ (tp : TypeId) (p : Value), w.var? Tryz.prog "strconv.ErrRange" = some #[.iface tp p]
theorem Env.later {w w' : World} (h : Env w) (hb : Below w.heap.size w w') : Env w' := by
  obtain ⟨h1, ⟨m, h2⟩, ⟨t3, p3, h3⟩, ⟨t4, p4, h4⟩⟩ := h
  exact ⟨h1.later hb, ⟨m, cell_later hb h2⟩, ⟨t3, p3, var_later h3 hb⟩, ⟨t4, p4, var_later h4 hb⟩⟩

def bAt (l : List UInt8) : ByteArray := ⟨l.toArray⟩
theorem bAt_list (l : List UInt8) : (bAt l).toList = l := by rw [sl]; rfl
theorem bAt_of (s : ByteArray) : bAt s.toList = s := by rw [sl]; rfl
theorem cut_any (s : ByteArray) (c : UInt8) (w : World) (hs : s.size ≤ 1000000) (he : Env w) : Calls Tryz.prog 51 #[.string s, .string ⟨#[c]⟩] w fun e w' => e = .returned (.tuple #[.string (bAt (cutC c s.toList).1), .string (bAt (cutC c s.toList).2.1), .bool (cutC c s.toList).2.2]) ∧ Below w.heap.size w w' := by
  obtain ⟨m, hm⟩ := he.ml
  refine (Tryz.strings_Cut s ⟨#[c]⟩ m w (by omega) hm).mono ?_
  rintro e w' ⟨rfl, n, rfl⟩
  refine ⟨?_, belDrewN (Below.refl _ _) n⟩
  have : Lib.cut s.data.toList (⟨#[c]⟩ : ByteArray).data.toList = cutC c s.toList := by rw [sl]; exact cut_one c _
  rw [this]; rfl
theorem atoi_ok (s : ByteArray) (v : Int) (w : World) (hs : s.size ≤ 1000000) (h : Lib.atoiAll s.toList = .ok v) : Calls Tryz.prog 69 #[.string s] w fun e w' => e = .returned (.tuple #[.int .i64 v, .nilIface]) ∧ Below w.heap.size w w' := by
  rw [sl] at h
  refine (Tryz.strconv_Atoi_ok s (by omega) v h w).mono ?_
  rintro e w' ⟨rfl, rfl | ⟨t, rfl⟩⟩
  · exact ⟨rfl, Below.refl _ _⟩
  · exact ⟨rfl, Lib.bytesWorld_below _ _ _⟩
theorem atoi_err (s : ByteArray) (w : World) (hs : s.size ≤ 1000000) (he : Env w) (h : ∀ v, Lib.atoiAll s.toList ≠ .ok v) : Calls Tryz.prog 69 #[.string s] w fun e w' => ∃ (i : Int) (N : Nat), e = .returned (.tuple #[.int .i64 i, .iface 117 (.pointer (some ⟨N, 0, none⟩))]) ∧ Below w.heap.size w w' := by
  obtain ⟨_, _, ⟨t3, p3, h3⟩, ⟨t4, p4, h4⟩⟩ := he
  rw [sl] at h
  rcases hq : Lib.atoiAll s.data.toList with v | _ | _
  · exact absurd hq (h v)
  · refine (Any.strconv_Atoi_syntax_var Tryz.laysC172 s (by omega) hq t3 p3 w h3).mono ?_
    rintro e w' ⟨N, rfl, _, _, hb⟩
    exact ⟨_, N, rfl, hb⟩
  · refine (Any.strconv_Atoi_range_var Tryz.laysC172 s (by omega) hq t4 p4 w h4).mono ?_
    rintro e w' ⟨N, rfl, _, _, hb⟩
    exact ⟨_, N, rfl, hb⟩

def dgN (l : List UInt8) (m : Int) : Int := (dgv l m).getD 0
def dgB (l : List UInt8) (m : Int) : Bool := (dgv l m).isSome
theorem dgv_atoi {l : List UInt8} {m n : Int} (hm : m ≤ 1000) (h : dgv l m = some n) : Lib.atoiAll l = .ok n := by
  obtain ⟨h1, h2, h3⟩ := dgv_some hm h
  have := atoi_dd n.toNat (by omega)
  rw [← h3, Int.toNat_of_nonneg (by omega)] at this
  exact this
theorem thr_within (n m : Int) (w : World) : Calls Tryz.prog 64 #[.int .i64 n, .int .i64 m] w fun e w' => e = .returned (.bool (decide (1 ≤ n) && decide (n ≤ m))) ∧ w = w' := by
  rcases Int.lt_or_le n 1 with h1 | h1 <;> rcases Int.lt_or_le m n with h2 | h2
  all_goals
    have HB := Lib.hid (show (decide (1 ≤ n) && decide (n ≤ m)) = (decide (1 ≤ n) && decide (n ≤ m)) from rfl)
    go_enter Tryz.func64, Tryz.ntmps64
    go_wp2
    go_ret
    exact ⟨ret_bool (by simp <;> omega), rfl⟩
set_option maxHeartbeats 2000000 in
theorem thr_digits (s : ByteArray) (m : Int) (w : World) (hs : s.size ≤ 1000000) (hm : m ≤ 1000) (he : Env w) : Calls Tryz.prog 54 #[.string s, .int .i64 m] w fun e w' => e = .returned (.tuple #[.int .i64 (dgN s.toList m), .bool (dgB s.toList m)]) ∧ Below w.heap.size w w' := by
  have hbel : Below w.heap.size w w := Below.refl _ _
  by_cases hok : ∃ v, Lib.atoiAll s.toList = .ok v
  · obtain ⟨v, hv⟩ := hok
    have CA := Lib.hid (atoi_ok s v w hs hv)
    have CW := Lib.hid (fun u => thr_within v m u)
    by_cases hr : 1 ≤ v ∧ v ≤ m
    · have htr : (decide (1 ≤ v) && decide (v ≤ m)) = true := by simp [hr]
      rw [htr] at CW
      have CI := Lib.hid (fun u (hu : Below w.heap.size w u) => itoa_any v (by omega) (by omega) u (he.tab.later hu))
      have hdd := ddB_list v.toNat
      cases hq : (ddB v.toNat).toList == s.toList with
      | false =>
        have HD := Lib.hid (show dgN s.toList m = 0 ∧ dgB s.toList m = false by
          have : dgv s.toList m = none := by
            cases hq2 : dgv s.toList m with
            | none => rfl
            | some n =>
              have h1 := dgv_atoi hm hq2
              rw [hv] at h1
              obtain rfl : v = n := by injection h1
              obtain ⟨_, _, h3⟩ := dgv_some hm hq2
              rw [hdd, ← h3] at hq
              simp at hq
          unfold dgN dgB; rw [this]; exact ⟨rfl, rfl⟩)
        clear hv hdd htr he hr
        go_enter Tryz.func54, Tryz.ntmps54
        go_wp2_with (first | (go_at_call 69; (with_reducible refine (CA.out).mono ?_); rintro e w1 ⟨rfl, hb1⟩; replace hbel := belStep hbel hb1; clear hb1) | (go_at_call 64; (with_reducible refine (CW.out _).mono ?_); rintro e w' ⟨rfl, rfl⟩) | (go_at_call 44; (with_reducible refine (CI.out _ hbel).mono ?_); rintro e w1 ⟨rfl, hb1⟩; replace hbel := belStep hbel hb1; clear hb1))
        go_ret2
        exact ⟨by rw [HD.out.1, HD.out.2]; rfl, hbel⟩
      | true =>
        have HD := Lib.hid (show dgN s.toList m = v ∧ dgB s.toList m = true by
          have e : s.toList = Lib.decDigits v.toNat := by rw [← hdd]; have := hq; simp at this; exact this.symm
          have : dgv s.toList m = some v := by rw [e]; exact dgv_of hr.1 hr.2 hm
          unfold dgN dgB; rw [this]; exact ⟨rfl, rfl⟩)
        clear hv hdd htr he hr
        go_enter Tryz.func54, Tryz.ntmps54
        go_wp2_with (first | (go_at_call 69; (with_reducible refine (CA.out).mono ?_); rintro e w1 ⟨rfl, hb1⟩; replace hbel := belStep hbel hb1; clear hb1) | (go_at_call 64; (with_reducible refine (CW.out _).mono ?_); rintro e w' ⟨rfl, rfl⟩) | (go_at_call 44; (with_reducible refine (CI.out _ hbel).mono ?_); rintro e w1 ⟨rfl, hb1⟩; replace hbel := belStep hbel hb1; clear hb1))
        go_ret2
        exact ⟨by rw [HD.out.1, HD.out.2]; rfl, hbel⟩
    · have hfa : (decide (1 ≤ v) && decide (v ≤ m)) = false := by simp; omega
      rw [hfa] at CW
      have HD := Lib.hid (show dgN s.toList m = 0 ∧ dgB s.toList m = false by
        have : dgv s.toList m = none := by
          cases hq2 : dgv s.toList m with
          | none => rfl
          | some n =>
            have h1 := dgv_atoi hm hq2
            rw [hv] at h1
            obtain rfl : v = n := by injection h1
            obtain ⟨h2, h3, _⟩ := dgv_some hm hq2
            exact absurd ⟨h2, h3⟩ hr
        unfold dgN dgB; rw [this]; exact ⟨rfl, rfl⟩)
      clear hv hfa he hr
      go_enter Tryz.func54, Tryz.ntmps54
      go_wp2_with (first | (go_at_call 69; (with_reducible refine (CA.out).mono ?_); rintro e w1 ⟨rfl, hb1⟩; replace hbel := belStep hbel hb1; clear hb1) | (go_at_call 64; (with_reducible refine (CW.out _).mono ?_); rintro e w' ⟨rfl, rfl⟩))
      go_ret2
      exact ⟨by rw [HD.out.1, HD.out.2]; rfl, hbel⟩
  · have CA := Lib.hid (atoi_err s w hs he (fun v hv => hok ⟨v, hv⟩))
    have HD := Lib.hid (show dgN s.toList m = 0 ∧ dgB s.toList m = false by
      have : dgv s.toList m = none := by
        cases hq2 : dgv s.toList m with
        | none => rfl
        | some n => exact absurd ⟨n, dgv_atoi hm hq2⟩ hok
      unfold dgN dgB; rw [this]; exact ⟨rfl, rfl⟩)
    clear hok he
    go_enter Tryz.func54, Tryz.ntmps54
    go_wp2_with (first | (go_at_call 69; (with_reducible refine CA.out.mono ?_); rintro e w1 ⟨i, N, rfl, hb1⟩; replace hbel := belStep hbel hb1; clear hb1))
    go_ret2
    exact ⟨by rw [HD.out.1, HD.out.2]; rfl, hbel⟩
end Go.Proofs.YtcaenbobfneejaaGreatDoor
namespace Go.Proofs.YtcaenbobfneejaaGreatDoor
open Go.RowKit
set_option linter.unusedVariables false
set_option linter.unusedSimpArgs false

def wB (i : Int) : ByteArray := if i = 0 then ⟨#[109, 101, 109, 111, 114, 121]⟩ else if i = 1 then ⟨#[100, 105, 115, 107]⟩ else if i = 2 then ⟨#[112, 105, 100]⟩ else ⟨#[]⟩
theorem thr_word (i : Int) (w : World) : Calls Tryz.prog 43 #[.int .i64 i] w fun e w' => e = .returned (.string (wB i)) ∧ w = w' := by
  have hc : ((i == 0) = true ∧ wB i = ⟨#[109, 101, 109, 111, 114, 121]⟩) ∨ ((i == 0) = false ∧ (i == 1) = true ∧ wB i = ⟨#[100, 105, 115, 107]⟩) ∨ ((i == 0) = false ∧ (i == 1) = false ∧ (i == 2) = true ∧ wB i = ⟨#[112, 105, 100]⟩) ∨ ((i == 0) = false ∧ (i == 1) = false ∧ (i == 2) = false ∧ wB i = ⟨#[]⟩) := by
    unfold wB
    rcases Int.decEq i 0 with h0 | h0
    · rcases Int.decEq i 1 with h1 | h1
      · rcases Int.decEq i 2 with h2 | h2
        · exact .inr (.inr (.inr ⟨by simpa using h0, by simpa using h1, by simpa using h2, by rw [if_neg h0, if_neg h1, if_neg h2]⟩))
        · exact .inr (.inr (.inl ⟨by simpa using h0, by simpa using h1, by simpa using h2, by rw [if_neg h0, if_neg h1, if_pos h2]⟩))
      · exact .inr (.inl ⟨by simpa using h0, by simpa using h1, by rw [if_neg h0, if_pos h1]⟩)
    · exact .inl ⟨by simpa using h0, by rw [if_pos h0]⟩
  rcases hc with ⟨h0, h⟩ | ⟨h0, h1, h⟩ | ⟨h0, h1, h2, h⟩ | ⟨h0, h1, h2, h⟩
  all_goals
    have H := Lib.hid h
    clear h
    go_enter Tryz.func43, Tryz.ntmps43
    go_wp2
    go_ret
    exact ⟨by rw [H.out]; rfl, rfl⟩
def sigN (l : List UInt8) : Int := (sigF l).getD 0
def sigB (l : List UInt8) : Bool := (sigF l).isSome
theorem wB_list (k : Nat) (h : k < 3) : (wB k).toList = if k = 0 then [109, 101, 109, 111, 114, 121] else if k = 1 then [100, 105, 115, 107] else [112, 105, 100] := by
  rcases (show k = 0 ∨ k = 1 ∨ k = 2 by omega) with rfl | rfl | rfl <;> (rw [sl]; rfl)
theorem sig_hit (s : ByteArray) (k : Nat) (h : k < 3) (he : (s.toList == (wB k).toList) = true) : sigN s.toList = k ∧ sigB s.toList = true := by
  have e : s.toList = (wB k).toList := by simpa using he
  rw [e, wB_list k h]
  rcases (show k = 0 ∨ k = 1 ∨ k = 2 by omega) with rfl | rfl | rfl <;> exact ⟨rfl, rfl⟩
theorem sig_miss (s : ByteArray) (h : ∀ k : Nat, k < 3 → (s.toList == (wB k).toList) = false) : sigN s.toList = 0 ∧ sigB s.toList = false := by
  have h0 := h 0 (by omega)
  have h1 := h 1 (by omega)
  have h2 := h 2 (by omega)
  rw [wB_list _ (by omega)] at h0 h1 h2
  simp at h0 h1 h2
  unfold sigN sigB sigF
  rw [if_neg h0, if_neg h1, if_neg h2]
  exact ⟨rfl, rfl⟩
set_option maxHeartbeats 1000000 in
theorem thr_Signal (s : ByteArray) (w : World) : Calls Tryz.prog 52 #[.string s] w fun e w' => e = .returned (.tuple #[.int .i64 (sigN s.toList), .bool (sigB s.toList)]) ∧ w = w' := by
  go_enter Tryz.func52, Tryz.ntmps52
  go_wp2
  go_loop [5] (fun i => ∃ k : Nat, k ≤ 3 ∧ i = .int .i64 k ∧ ∀ j : Nat, j < k → (s.toList == (wB j).toList) = false) (fun i => 3 - (intOf i).toNat)
  case atStart => exact ⟨0, Nat.zero_le _, rfl, fun j hj => absurd hj (by omega)⟩
  case round =>
    obtain ⟨k, hk, rfl, hall⟩ := hrel
    by_cases hlt : k < 3
    · have CW := Lib.hid (fun v => thr_word (k : Int) v)
      cases he : s.toList == (wB k).toList with
      | true =>
        have HS := Lib.hid (sig_hit s k hlt he)
        clear hall
        go_wp2_with (go_at_call 43; (with_reducible refine (CW.out _).mono ?_); rintro e w' ⟨rfl, rfl⟩)
        go_ret2
        exact ⟨by rw [HS.out.1, HS.out.2]; rfl, rfl⟩
      | false =>
        have HA := Lib.hid hall
        have HE := Lib.hid he
        clear hall
        go_wp2_with (go_at_call 43; (with_reducible refine (CW.out _).mono ?_); rintro e w' ⟨rfl, rfl⟩)
        go_round
        case rel =>
          refine ⟨k + 1, by omega, by go_num, fun j hj => ?_⟩
          rcases Nat.lt_or_ge j k with q | q
          · exact HA.out j q
          · obtain rfl : j = k := by omega
            exact HE.out
        case measure => simp [intOf]; omega
    · obtain rfl : k = 3 := by omega
      have HS := Lib.hid (sig_miss s hall)
      clear hall
      go_wp2
      go_ret2
      exact ⟨by rw [HS.out.1, HS.out.2]; rfl, rfl⟩

/-- What a limit's reading leaves: percent and amount. -/
def limP (l : List UInt8) : Int := if (cutC 37 l).2.2 then dgN (cutC 37 l).1 100 else 0
def limA (l : List UInt8) : Int := if (cutC 37 l).2.2 then 0 else qN l
def limB (l : List UInt8) : Bool := (limF l).isSome
theorem limF_some {l : List UInt8} {p a : Int} (h : limF l = some (p, a)) : limP l = p ∧ limA l = a := by
  unfold limF at h
  unfold limP limA
  split at h
  · rename_i h1
    rw [if_pos h1, if_pos h1]
    split at h
    · unfold dgN
      cases hq : dgv (cutC 37 l).1 100 with
      | none => rw [hq] at h; cases h
      | some n => rw [hq] at h; simp at h; exact ⟨h.1, h.2.symm ▸ rfl⟩
    · cases h
  · rename_i h1
    rw [if_neg h1, if_neg h1]
    split at h
    · rename_i h2
      simp at h
      unfold qN; rw [if_pos h2.1]
      exact ⟨h.1, h.2⟩
    · cases h
set_option maxRecDepth 100000 in
set_option maxHeartbeats 4000000 in
theorem thr_limit (s : ByteArray) (M : Nat) (g0 g4 : Int) (b3 : Bool) (w : World) (hs : s.size ≤ 1000000) (he : Env w) (hb : Blk w M [.int .i64 g0, .int .i64 0, .int .i64 0, .bool b3, .int .i64 g4] 54) :
    Calls Tryz.prog 53 #[.string s, .pointer (some ⟨M, 0, none⟩)] w fun e w' => e = .returned (.bool (limB s.toList)) ∧ Blk w' M [.int .i64 g0, .int .i64 (limP s.toList), .int .i64 (limA s.toList), .bool b3, .int .i64 g4] 54 ∧ Below M w w' := by
  have hM := hb.lt
  have hbel : Below w.heap.size w w := Below.refl _ _
  have CC := Lib.hid (cut_any s 37 w hs he)
  have HE := Lib.hid he
  have HB := Lib.hid hb
  clear he hb
  cases hsh : (cutC 37 s.toList).2.2 with
  | true =>
    have HP := Lib.hid (show limP s.toList = dgN (cutC 37 s.toList).1 100 ∧ limA s.toList = 0 ∧ limB s.toList = (dgB (cutC 37 s.toList).1 100 && (cutC 37 s.toList).2.1.isEmpty) by
      unfold limP limA limB limF dgB
      rw [if_pos hsh, if_pos hsh, if_pos hsh]
      refine ⟨rfl, rfl, ?_⟩
      cases hq : (cutC 37 s.toList).2.1 with
      | nil => simp
      | cons x y => simp)
    have hsz : (bAt (cutC 37 s.toList).1).size ≤ 1000000 := by
      rw [← sl_len, bAt_list]
      rcases cutC_spec 37 s.toList with ⟨_, h2, _⟩ | ⟨h1, _⟩
      · have := congrArg List.length h2
        rw [sl_len, List.length_append, List.length_cons] at this; omega
      · rw [h1, sl_len]; exact hs
    have CD := fun u (hu : Below w.heap.size w u) => thr_digits (bAt (cutC 37 s.toList).1) 100 u hsz (by omega) (HE.out.later hu)
    rw [bAt_list] at CD
    have hbl := bAt_list (cutC 37 s.toList).2.1
    rw [hsh] at CC
    clear hsh hsz
    generalize dgN (cutC 37 s.toList).1 100 = n at *
    generalize dgB (cutC 37 s.toList).1 100 = ok at *
    generalize bAt (cutC 37 s.toList).1 = pc at *
    generalize bAt (cutC 37 s.toList).2.1 = bh at *
    have HCD := Lib.hid CD
    have HBL := Lib.hid hbl
    clear CD hbl
    cases hem : bh.toList.isEmpty with
    | true =>
      rw [HBL.out] at hem
      have HEM := Lib.hid hem
      have hem2 : bh.toList.isEmpty = true := by rw [HBL.out]; exact hem
      have hem3 : bh.toList = [] := List.isEmpty_iff.1 hem2
      clear hem
      cases ok
      all_goals
        go_enter Tryz.func53, Tryz.ntmps53
        go_upto_region 4 with (first | (go_at_call 51; (with_reducible refine (CC.out).mono ?_); rintro e w1 ⟨rfl, hb1⟩; replace hbel := belStep hbel hb1; clear hb1) | (go_at_call 54; (with_reducible refine (HCD.out _ hbel).mono ?_); rintro e w1 ⟨rfl, hb1⟩; replace hbel := belStep hbel hb1; clear hb1))
        have HB1 := HB.out.later hbel
        have m1 := HB1.cell (j := 1) rfl
        have f1 := HB1.frozen 1
        have HBB := Lib.hid HB1
        clear HB1
        go_wp2
        go_ret
        exact ⟨by rw [HP.out.2.2, HEM.out]; rfl, by rw [HP.out.1, HP.out.2.1]; exact HBB.out.set 1 _, (hbel.mono (show M ≤ w.heap.size by omega)).setCell (Nat.le_refl _) _⟩
    | false =>
      rw [HBL.out] at hem
      have HEM := Lib.hid hem
      have hem2 : bh.toList.isEmpty = false := by rw [HBL.out]; exact hem
      have hem3 : (bh.toList == []) = false := by cases hq : bh.toList with | nil => rw [hq] at hem2; cases hem2 | cons x y => rfl
      clear hem
      cases ok
      all_goals
        go_enter Tryz.func53, Tryz.ntmps53
        go_upto_region 4 with (first | (go_at_call 51; (with_reducible refine (CC.out).mono ?_); rintro e w1 ⟨rfl, hb1⟩; replace hbel := belStep hbel hb1; clear hb1) | (go_at_call 54; (with_reducible refine (HCD.out _ hbel).mono ?_); rintro e w1 ⟨rfl, hb1⟩; replace hbel := belStep hbel hb1; clear hb1))
        have HB1 := HB.out.later hbel
        have m1 := HB1.cell (j := 1) rfl
        have f1 := HB1.frozen 1
        have HBB := Lib.hid HB1
        clear HB1
        go_wp2
        go_ret
        exact ⟨by rw [HP.out.2.2, HEM.out]; rfl, by rw [HP.out.1, HP.out.2.1]; exact HBB.out.set 1 _, (hbel.mono (show M ≤ w.heap.size by omega)).setCell (Nat.le_refl _) _⟩
  | false =>
    have HP := Lib.hid (show limP s.toList = 0 ∧ limA s.toList = qN s.toList ∧ limB s.toList = (qOk s.toList && decide (0 < qNum s.toList)) by
      unfold limP limA limB limF
      rw [if_neg (by rw [hsh]; simp), if_neg (by rw [hsh]; simp), if_neg (by rw [hsh]; simp)]
      refine ⟨rfl, rfl, ?_⟩
      by_cases hq : qOk s.toList = true ∧ 0 < qNum s.toList
      · rw [if_pos hq, hq.1]; simp [hq.2]
      · rw [if_neg hq]
        cases h1 : qOk s.toList with
        | false => rfl
        | true => simp only [Bool.true_and]; exact (decide_eq_false (fun h2 => hq ⟨h1, h2⟩)).symm)
    have CR := fun u => quant_Read s u (by unfold maxLen; omega)
    rw [hsh] at CC
    clear hsh
    unfold qN qE at CR
    unfold qN at HP
    have hnn := qNum_nn s.toList
    generalize qNum s.toList = n at *
    have hc : (qOk s.toList = true ∧ 0 < n) ∨ (qOk s.toList = true ∧ ¬ 0 < n) ∨ qOk s.toList = false := by
      cases qOk s.toList with
      | true => rcases Int.lt_or_le 0 n with q | q
                · exact .inl ⟨rfl, q⟩
                · exact .inr (.inl ⟨rfl, by omega⟩)
      | false => exact .inr (.inr rfl)
    rcases hc with ⟨hq, hn⟩ | ⟨hq, hn⟩ | hq
    · rw [hq] at CR HP
      simp only [if_true] at CR HP
      have HCR := Lib.hid CR
      clear CR hq
      go_enter Tryz.func53, Tryz.ntmps53
      go_upto_region 7 with (first | (go_at_call 51; (with_reducible refine (CC.out).mono ?_); rintro e w1 ⟨rfl, hb1⟩; replace hbel := belStep hbel hb1; clear hb1) | (go_at_call 35; (with_reducible refine (HCR.out _).mono ?_); rintro e w1 ⟨rfl, hb1⟩; replace hbel := belStep hbel hb1; clear hb1))
      have HB1 := HB.out.later hbel
      have m1 := HB1.cell (j := 2) rfl
      have f1 := HB1.frozen 2
      have HBB := Lib.hid HB1
      clear HB1
      go_wp2
      go_ret
      exact ⟨by rw [HP.out.2.2]; simp [hn], by rw [HP.out.1, HP.out.2.1]; exact HBB.out.set 2 _, (hbel.mono (show M ≤ w.heap.size by omega)).setCell (Nat.le_refl _) _⟩
    · rw [hq] at CR HP
      simp only [if_true] at CR HP
      have HCR := Lib.hid CR
      clear CR hq
      go_enter Tryz.func53, Tryz.ntmps53
      go_upto_region 7 with (first | (go_at_call 51; (with_reducible refine (CC.out).mono ?_); rintro e w1 ⟨rfl, hb1⟩; replace hbel := belStep hbel hb1; clear hb1) | (go_at_call 35; (with_reducible refine (HCR.out _).mono ?_); rintro e w1 ⟨rfl, hb1⟩; replace hbel := belStep hbel hb1; clear hb1))
      have HB1 := HB.out.later hbel
      have m1 := HB1.cell (j := 2) rfl
      have f1 := HB1.frozen 2
      have HBB := Lib.hid HB1
      clear HB1
      go_wp2
      go_ret
      exact ⟨by rw [HP.out.2.2]; simp [hn], by rw [HP.out.1, HP.out.2.1]; exact HBB.out.set 2 _, (hbel.mono (show M ≤ w.heap.size by omega)).setCell (Nat.le_refl _) _⟩
    · rw [hq] at CR HP
      simp only [Bool.false_eq_true, if_false] at CR HP
      have HCR := Lib.hid CR
      clear CR hq
      go_enter Tryz.func53, Tryz.ntmps53
      go_upto_region 7 with (first | (go_at_call 51; (with_reducible refine (CC.out).mono ?_); rintro e w1 ⟨rfl, hb1⟩; replace hbel := belStep hbel hb1; clear hb1) | (go_at_call 35; (with_reducible refine (HCR.out _).mono ?_); rintro e w1 ⟨rfl, hb1⟩; replace hbel := belStep hbel hb1; clear hb1))
      have HB1 := HB.out.later hbel
      have m1 := HB1.cell (j := 2) rfl
      have f1 := HB1.frozen 2
      have HBB := Lib.hid HB1
      clear HB1
      go_wp2
      go_ret
      exact ⟨by rw [HP.out.2.2]; rfl, by rw [HP.out.1, HP.out.2.1]; exact HBB.out.set 2 _, (hbel.mono (show M ≤ w.heap.size by omega)).setCell (Nat.le_refl _) _⟩
end Go.Proofs.YtcaenbobfneejaaGreatDoor
