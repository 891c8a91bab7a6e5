
/- thresh.digits, strings.Cut at one byte: contracts. -/
import Derived.Test.YtdmnogljdkncpaaDoorThrMath2
import Derived.Test.YtdmnogljdkncpaaDoorQuantCard
import Derived.Test.YtdmnogljdkncpaaDoorShelfT
namespace Go.Proofs.YtdmnogljdkncpaaDoor
open Go.RowKit
set_option linter.unusedVariables false
set_option linter.unusedSimpArgs false

theorem var_later {w w' : World} {n : String} {cs : Array Value} (h : w.var? Tryd.prog n = some cs) (hb : Below w.heap.size w w') : w'.var? Tryd.prog n = some cs := by
  unfold World.var? at *
  cases hg : Tryd.prog.globalNamed n with
  | none => simp [hg] at h
  | some g =>
    simp only [hg, Option.bind_some] at h ⊢
    have hlt : g < w.heap.size := by
      rcases Nat.lt_or_ge g w.heap.size with h' | h'
      · exact h'
      · rw [Array.getElem?_eq_none h'] at h; simp at h
    rw [hb.block g hlt]
    exact h
/-- What the library's variables hold. -/
structure Env (w : World) : Prop where
  tab : Tab w
  ml : ∃ m : Int, w.cell? ⟨2, 0, none⟩ = some (.int .i64 m)
  sy : ∃ (tp : TypeId) (p : Value), w.var? Tryd.prog "strconv.ErrSyntax" = some #[.iface tp p]
  ra : ∃ (tp : TypeId) (p : Value), w.var? Tryd.prog "strconv.ErrRange" = some #[.iface tp p]
theorem Env.later {w w' : World} (h : Env w) (hb : Below w.heap.size w w') : Env w' := by
  obtain ⟨h1, ⟨m, h2⟩, ⟨t3, p3, h3⟩, ⟨t4, p4, h4⟩⟩ := h
  exact ⟨h1.later hb, ⟨m, cell_later hb h2⟩, ⟨t3, p3, var_later h3 hb⟩, ⟨t4, p4, var_later h4 hb⟩⟩

def bA (l : List UInt8) : ByteArray := ⟨l.toArray⟩
theorem bA_list (l : List UInt8) : (bA l).toList = l := by rw [sl]; rfl
theorem bA_of (s : ByteArray) : bA s.toList = s := by rw [sl]; rfl
theorem cut_any (s : ByteArray) (c : UInt8) (w : World) (hs : s.size ≤ 1000000) (he : Env w) : Calls Tryd.prog 15 #[.string s, .string ⟨#[c]⟩] w fun e w' => e = .returned (.tuple #[.string (bA (cutC c s.toList).1), .string (bA (cutC c s.toList).2.1), .bool (cutC c s.toList).2.2]) ∧ Below w.heap.size w w' := by
  obtain ⟨m, hm⟩ := he.ml
  refine (Tryd.strings_Cut s ⟨#[c]⟩ m w (by omega) hm).mono ?_
  rintro e w' ⟨rfl, n, rfl⟩
  refine ⟨?_, belDrewN (Below.refl _ _) n⟩
  have : Lib.cut s.data.toList (⟨#[c]⟩ : ByteArray).data.toList = cutC c s.toList := by rw [sl]; exact cut_one c _
  rw [this]; rfl
theorem atoi_ok (s : ByteArray) (v : Int) (w : World) (hs : s.size ≤ 1000000) (h : Lib.atoiAll s.toList = .ok v) : Calls Tryd.prog 27 #[.string s] w fun e w' => e = .returned (.tuple #[.int .i64 v, .nilIface]) ∧ Below w.heap.size w w' := by
  rw [sl] at h
  refine (Tryd.strconv_Atoi_ok s (by omega) v h w).mono ?_
  rintro e w' ⟨rfl, rfl | ⟨t, rfl⟩⟩
  · exact ⟨rfl, Below.refl _ _⟩
  · exact ⟨rfl, Lib.bytesWorld_below _ _ _⟩
theorem atoi_err (s : ByteArray) (w : World) (hs : s.size ≤ 1000000) (he : Env w) (h : ∀ v, Lib.atoiAll s.toList ≠ .ok v) : Calls Tryd.prog 27 #[.string s] w fun e w' => ∃ (i : Int) (N : Nat), e = .returned (.tuple #[.int .i64 i, .iface 72 (.pointer (some ⟨N, 0, none⟩))]) ∧ Below w.heap.size w w' := by
  obtain ⟨_, _, ⟨t3, p3, h3⟩, ⟨t4, p4, h4⟩⟩ := he
  rw [sl] at h
  rcases hq : Lib.atoiAll s.data.toList with v | _ | _
  · exact absurd hq (h v)
  · refine (Any.strconv_Atoi_syntax_var Tryd.laysC172 s (by omega) hq t3 p3 w h3).mono ?_
    rintro e w' ⟨N, rfl, _, _, hb⟩
    exact ⟨_, N, rfl, hb⟩
  · refine (Any.strconv_Atoi_range_var Tryd.laysC172 s (by omega) hq t4 p4 w h4).mono ?_
    rintro e w' ⟨N, rfl, _, _, hb⟩
    exact ⟨_, N, rfl, hb⟩

def dgN (l : List UInt8) (m : Int) : Int := (dgv l m).getD 0
def dgB (l : List UInt8) (m : Int) : Bool := (dgv l m).isSome
theorem dgv_atoi {l : List UInt8} {m n : Int} (hm : m ≤ 1000) (h : dgv l m = some n) : Lib.atoiAll l = .ok n := by
  obtain ⟨h1, h2, h3⟩ := dgv_some hm h
  have := atoi_dd n.toNat (by omega)
  rw [← h3, Int.toNat_of_nonneg (by omega)] at this
  exact this
theorem thr_within (n m : Int) (w : World) : Calls Tryd.prog 13 #[.int .i64 n, .int .i64 m] w fun e w' => e = .returned (.bool (decide (1 ≤ n) && decide (n ≤ m))) ∧ w = w' := by
  rcases Int.lt_or_le n 1 with h1 | h1 <;> rcases Int.lt_or_le m n with h2 | h2
  all_goals
    have HB := Lib.hid (show (decide (1 ≤ n) && decide (n ≤ m)) = (decide (1 ≤ n) && decide (n ≤ m)) from rfl)
    go_enter Tryd.func13, Tryd.ntmps13
    go_wp2
    go_ret
    exact ⟨ret_bool (by simp <;> omega), rfl⟩
set_option maxHeartbeats 2000000 in
theorem thr_digits (s : ByteArray) (m : Int) (w : World) (hs : s.size ≤ 1000000) (hm : m ≤ 1000) (he : Env w) : Calls Tryd.prog 17 #[.string s, .int .i64 m] w fun e w' => e = .returned (.tuple #[.int .i64 (dgN s.toList m), .bool (dgB s.toList m)]) ∧ Below w.heap.size w w' := by
  have hbel : Below w.heap.size w w := Below.refl _ _
  by_cases hok : ∃ v, Lib.atoiAll s.toList = .ok v
  · obtain ⟨v, hv⟩ := hok
    have CA := Lib.hid (atoi_ok s v w hs hv)
    have CW := Lib.hid (fun u => thr_within v m u)
    by_cases hr : 1 ≤ v ∧ v ≤ m
    · have htr : (decide (1 ≤ v) && decide (v ≤ m)) = true := by simp [hr]
      rw [htr] at CW
      have CI := Lib.hid (fun u (hu : Below w.heap.size w u) => itoa_any v (by omega) (by omega) u (he.tab.later hu))
      have hdd := ddB_list v.toNat
      cases hq : (ddB v.toNat).toList == s.toList with
      | false =>
        have HD := Lib.hid (show dgN s.toList m = 0 ∧ dgB s.toList m = false by
          have : dgv s.toList m = none := by
            cases hq2 : dgv s.toList m with
            | none => rfl
            | some n =>
              have h1 := dgv_atoi hm hq2
              rw [hv] at h1
              obtain rfl : v = n := by injection h1
              obtain ⟨_, _, h3⟩ := dgv_some hm hq2
              rw [hdd, ← h3] at hq
              simp at hq
          unfold dgN dgB; rw [this]; exact ⟨rfl, rfl⟩)
        clear hv hdd htr he hr
        go_enter Tryd.func17, Tryd.ntmps17
        go_wp2_with (first | (go_at_call 27; (with_reducible refine (CA.out).mono ?_); rintro e w1 ⟨rfl, hb1⟩; replace hbel := belStep hbel hb1; clear hb1) | (go_at_call 13; (with_reducible refine (CW.out _).mono ?_); rintro e w' ⟨rfl, rfl⟩) | (go_at_call 18; (with_reducible refine (CI.out _ hbel).mono ?_); rintro e w1 ⟨rfl, hb1⟩; replace hbel := belStep hbel hb1; clear hb1))
        go_ret2
        exact ⟨by rw [HD.out.1, HD.out.2]; rfl, hbel⟩
      | true =>
        have HD := Lib.hid (show dgN s.toList m = v ∧ dgB s.toList m = true by
          have e : s.toList = Lib.decDigits v.toNat := by rw [← hdd]; have := hq; simp at this; exact this.symm
          have : dgv s.toList m = some v := by rw [e]; exact dgv_of hr.1 hr.2 hm
          unfold dgN dgB; rw [this]; exact ⟨rfl, rfl⟩)
        clear hv hdd htr he hr
        go_enter Tryd.func17, Tryd.ntmps17
        go_wp2_with (first | (go_at_call 27; (with_reducible refine (CA.out).mono ?_); rintro e w1 ⟨rfl, hb1⟩; replace hbel := belStep hbel hb1; clear hb1) | (go_at_call 13; (with_reducible refine (CW.out _).mono ?_); rintro e w' ⟨rfl, rfl⟩) | (go_at_call 18; (with_reducible refine (CI.out _ hbel).mono ?_); rintro e w1 ⟨rfl, hb1⟩; replace hbel := belStep hbel hb1; clear hb1))
        go_ret2
        exact ⟨by rw [HD.out.1, HD.out.2]; rfl, hbel⟩
    · have hfa : (decide (1 ≤ v) && decide (v ≤ m)) = false := by simp; omega
      rw [hfa] at CW
      have HD := Lib.hid (show dgN s.toList m = 0 ∧ dgB s.toList m = false by
        have : dgv s.toList m = none := by
          cases hq2 : dgv s.toList m with
          | none => rfl
          | some n =>
            have h1 := dgv_atoi hm hq2
            rw [hv] at h1
            obtain rfl : v = n := by injection h1
            obtain ⟨h2, h3, _⟩ := dgv_some hm hq2
            exact absurd ⟨h2, h3⟩ hr
        unfold dgN dgB; rw [this]; exact ⟨rfl, rfl⟩)
      clear hv hfa he hr
      go_enter Tryd.func17, Tryd.ntmps17
      go_wp2_with (first | (go_at_call 27; (with_reducible refine (CA.out).mono ?_); rintro e w1 ⟨rfl, hb1⟩; replace hbel := belStep hbel hb1; clear hb1) | (go_at_call 13; (with_reducible refine (CW.out _).mono ?_); rintro e w' ⟨rfl, rfl⟩))
      go_ret2
      exact ⟨by rw [HD.out.1, HD.out.2]; rfl, hbel⟩
  · have CA := Lib.hid (atoi_err s w hs he (fun v hv => hok ⟨v, hv⟩))
    have HD := Lib.hid (show dgN s.toList m = 0 ∧ dgB s.toList m = false by
      have : dgv s.toList m = none := by
        cases hq2 : dgv s.toList m with
        | none => rfl
        | some n => exact absurd ⟨n, dgv_atoi hm hq2⟩ hok
      unfold dgN dgB; rw [this]; exact ⟨rfl, rfl⟩)
    clear hok he
    go_enter Tryd.func17, Tryd.ntmps17
    go_wp2_with (first | (go_at_call 27; (with_reducible refine CA.out.mono ?_); rintro e w1 ⟨i, N, rfl, hb1⟩; replace hbel := belStep hbel hb1; clear hb1))
    go_ret2
    exact ⟨by rw [HD.out.1, HD.out.2]; rfl, hbel⟩
end Go.Proofs.YtdmnogljdkncpaaDoor
