
/- quant.Unit, quant.Read, bilgeref05.Read: contracts. -/
import Derived.Test.YtdmnogljdkncpaaDoorQuantMath
import Derived.Lib.Strings
namespace Go.Proofs.YtdmnogljdkncpaaDoor
open Go.RowKit
set_option linter.unusedVariables false
set_option linter.unusedSimpArgs false

theorem sl (s : ByteArray) : s.toList = s.data.toList := ByteArray.toList_eq s
theorem sl_len (s : ByteArray) : s.toList.length = s.size := by rw [sl]; simp
theorem sl_drop (s : ByteArray) (k : Nat) : (s.extract k s.size).toList = s.toList.drop k := by
  rw [Lib.extract_toList, sl]
  apply List.take_of_length_le
  simp
theorem sl_take (s : ByteArray) (k : Nat) : (s.extract 0 k).toList = s.toList.take k := by
  rw [Lib.extract_toList, sl]; simp
theorem sl_snoc (s : ByteArray) {k : Nat} (h : k < s.size) : s.toList.take (k + 1) = s.toList.take k ++ [s[k]] := by
  rw [sl, List.take_succ_eq_append_getElem (by simpa using h)]; rfl
theorem stop_at (s : ByteArray) {k : Nat} (h1 : ∀ j (h : j < s.size), j < k → isDg s[j] = true) (h2 : ∀ h : k < s.size, isDg s[k] = false) (h3 : k ≤ s.size) : dgk s.toList = k ∧ dgs s.toList = s.toList.take k := by
  rw [sl]
  exact dgk_is (l := s.data.toList) (fun j h hj => h1 j (by simpa using h) hj) (fun h => h2 (by simpa using h)) (by simpa using h3)
theorem ret_q {a b c d : Int} (h : a = b) (k : c = d) : Ending.returned (.tuple #[.int .i64 a, .int .i64 c]) = .returned (.tuple #[.int .i64 b, .int .i64 d]) := by rw [h, k]
theorem ret_qb {a b : Int} {c d : Bool} (h : a = b) (k : c = d) : Ending.returned (.tuple #[.int .i64 a, .bool c]) = .returned (.tuple #[.int .i64 b, .bool d]) := by rw [h, k]
/-- What is answered: the number, and the error. -/
def qN (l : List UInt8) : Int := if qOk l then qNum l else 0
def qE (l : List UInt8) : Int := if qOk l then 0 else 2

set_option maxHeartbeats 2000000 in
theorem quant_Unit (s : ByteArray) (w : World) : Calls Tryd.prog 30 #[.string s] w fun e w' => e = .returned (.int .i64 (unitL s.toList)) ∧ w = w' := by
  go_enter Tryd.func30, Tryd.ntmps30
  go_wp2
  all_goals
    go_ret
    exact ⟨ret_i64 (by simp_all [unitL]), rfl⟩

set_option maxRecDepth 100000 in
set_option maxHeartbeats 4000000 in
theorem quant_Read (s : ByteArray) (w : World) (hs : s.size ≤ maxLen) : Calls Tryd.prog 26 #[.string s] w fun e w' => e = .returned (.tuple #[.int .i64 (qN s.toList), .int .i64 (qE s.toList)]) ∧ Below w.heap.size w w' := by
  have hs' : (s.size : Int) ≤ 9223372036854775807 := by unfold maxLen at hs; omega
  go_enter Tryd.func26, Tryd.ntmps26
  go_wp2
  go_loopw [4, 5] (fun n i wr => ∃ k : Nat, k ≤ s.size ∧ i = .int .i64 k ∧ n = .int .i64 (dgn (s.toList.take k)) ∧ (∀ j (h : j < s.size), j < k → isDg s[j] = true) ∧ Below w.heap.size w wr) (fun _ i _ => s.size - (intOf i).toNat)
  case atStart => exact ⟨0, Nat.zero_le _, rfl, rfl, fun j h hj => absurd hj (by omega), Below.refl _ _⟩
  case round =>
    obtain ⟨k, hk, rfl, rfl, hall, hbr⟩ := hrel
    have hbel : Below wr.heap.size wr wr := Below.refl _ _
    by_cases hdg : ∃ h : k < s.size, isDg s[k] = true
    · obtain ⟨hlt, hd⟩ := hdg
      have HN := Lib.hid (show dgn (s.toList.take (k + 1)) = satAdd (satMul (dgn (s.toList.take k)) 10) ((s[k].toNat : Int) - 48) by rw [sl_snoc s hlt, dgn_snoc]; rfl)
      have HALL := Lib.hid (show ∀ j (h : j < s.size), j < k + 1 → isDg s[j] = true from fun j h hj => by
        rcases Nat.lt_or_ge j k with q | q
        · exact hall j h q
        · obtain rfl : j = k := by omega
          exact hd)
      have hi := dgn_in (s.toList.take k)
      have d1 : (48 : Int) ≤ (s[k].toNat : Int) := by unfold isDg at hd; simp at hd; omega
      have d2 : (s[k].toNat : Int) ≤ 57 := by unfold isDg at hd; simp at hd; omega
      generalize dgn (s.toList.take k) = n at *
      have hm := inI_mul n 10
      have h10 : InI 10 := by unfold InI; omega
      have hc : InI ((s[k].toNat : Int) - 48) := by unfold InI; omega
      have CM := Lib.hid (fun v => sat_Mul n 10 v hi h10)
      have CA := Lib.hid (fun v => sat_Add (satMul n 10) ((s[k].toNat : Int) - 48) v hm hc)
      have q1 : (k : Int) < (s.size : Int) := by omega
      have hw8 : IntKind.u8.wrap ((s[k].toNat : Int) - 48) = (s[k].toNat : Int) - 48 := IntWalk.u8_in _ (by omega)
      have hw64 : IntKind.i64.wrap ((s[k].toNat : Int) - 48) = (s[k].toNat : Int) - 48 := IntWalk.i64_in _ (by omega)
      have hwc : IntKind.i64.wrap (s[k].toNat : Int) = (s[k].toNat : Int) := IntWalk.i64_in _ (by omega)
      clear hall hd
      go_wp2
      have kk := fun d os => belStep hbel (below_regrown _ d os)
      refine wp_region_quiet_below (by kernel_rfl) (by kernel_rfl) ?_
      repeat ((with_reducible refine wpQuiet_step (fun K hK => ?_)); go_simp; (try (rw [if_neg]; rotate_left; · decide)); first | ((with_reducible refine hK _ ?_); clear hK K) | (apply Exists.intro; refine ⟨fun _ => ?_, hK _ ?_⟩; (first | (go_at_call 40; with_reducible exact regrown_of_eq (CM.out _)) | (go_at_call 39; with_reducible exact regrown_of_eq (CA.out _))); clear hK K))
      refine wpQuiet_nil (fun w1 hw1 => ?_)
      replace hbel := belStep hbel (bel_of_class hw1)
      clear hw1 kk
      clear hw8 hw64 hwc
      go_wp2
      go_roundw
      case rel => exact ⟨k + 1, by omega, by push_cast; rfl, by rw [HN.out], HALL.out, belStep hbr hbel⟩
      case measure => simp [intOf] <;> omega
    · have hst := stop_at s hall (fun h => by cases hq : isDg s[k] with | false => rfl | true => exact absurd ⟨h, hq⟩ hdg) hk
      have hu : ∀ (t : ByteArray) v, t.toList = s.toList.drop k → Calls Tryd.prog 30 #[.string t] v fun e w' => e = .returned (.int .i64 (unitL (s.toList.drop k))) ∧ v = w' := fun t v ht => ht ▸ quant_Unit t v
      have hud := unitL_bd (s.toList.drop k)
      have hres : qOk s.toList = (!(k == 0) && !(unitL (s.toList.drop k) == 0)) ∧ qNum s.toList = satMul (dgn (s.toList.take k)) (unitL (s.toList.drop k)) := by
        unfold qOk qNum; rw [hst.1, hst.2]; exact ⟨rfl, rfl⟩
      have hi := dgn_in (s.toList.take k)
      generalize unitL (s.toList.drop k) = u at *
      generalize dgn (s.toList.take k) = n at *
      obtain ⟨hres1, hres2⟩ := hres
      have HR1 := Lib.hid hres1
      have HR2 := Lib.hid hres2
      have CU := Lib.hid hu
      have CM := Lib.hid (fun v => sat_Mul n u v hi (by unfold InI; omega))
      have tests : ¬ k < s.size ∨ (k < s.size ∧ ∃ h : k < s.size, ¬ (48 : Int) ≤ (s[k].toNat : Int)) ∨ (k < s.size ∧ ∃ h : k < s.size, (48 : Int) ≤ (s[k].toNat : Int) ∧ ¬ (s[k].toNat : Int) ≤ 57) := by
        rcases Nat.lt_or_ge k s.size with q | q
        · have hq : isDg s[k] = false := by cases hq : isDg s[k] with | false => rfl | true => exact absurd ⟨q, hq⟩ hdg
          unfold isDg at hq
          simp at hq
          rcases Int.lt_or_le (s[k].toNat : Int) 48 with c | c
          · exact .inr (.inl ⟨q, q, by omega⟩)
          · exact .inr (.inr ⟨q, q, c, by omega⟩)
        · exact .inl (by omega)
      have ends : k = 0 ∨ (0 < k ∧ ((k : Int) == 0) = false ∧ ¬ (k : Int) = 0 ∧ (u = 0 ∨ ((u == 0) = false ∧ ¬ u = 0))) := by
        rcases Nat.eq_zero_or_pos k with q | q
        · exact .inl q
        · refine .inr ⟨q, by simp; omega, by omega, ?_⟩
          rcases Int.decEq u 0 with c | c
          · exact .inr ⟨by simpa using c, c⟩
          · exact .inl c
      clear hst hu hres1 hres2 hall hdg hi
      rcases tests with t1 | ⟨t1, h, t2⟩ | ⟨t1, h, t2, t3⟩
      all_goals
        rcases ends with rfl | ⟨e1, e2, e3, rfl | ⟨e4, e5⟩⟩
        all_goals
          go_wp2_with (first | (go_at_call 30; (with_reducible refine (CU.out _ _ (by first | exact sl_drop _ _ | exact List.drop_zero.symm)).mono ?_); rintro e w' ⟨rfl, rfl⟩) | (go_at_call 40; (with_reducible refine (CM.out _).mono ?_); rintro e w' ⟨rfl, rfl⟩))
          go_ret2
          exact ⟨ret_q (by unfold qN; rw [HR1.out]; first | (simp; done) | (simp [*]; done) | (rw [HR2.out]; simp_all)) (by unfold qE; rw [HR1.out]; first | (simp; done) | simp_all), belStep hbr hbel⟩
end Go.Proofs.YtdmnogljdkncpaaDoor
