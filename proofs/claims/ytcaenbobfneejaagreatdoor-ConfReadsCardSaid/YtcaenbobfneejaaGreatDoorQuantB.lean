
/- bilgeref05.Names, Unit, Read: contracts. strconv.Itoa at numbers from 0 on, bilgeref05.Digits, quant.Print, bilgeref05.Print: contracts. quant.Print, bilgeref05.Print: contracts. -/
import Derived.Test.YtcaenbobfneejaaGreatDoorQuantA
import Derived.Test.YtcaenbobfneejaaGreatDoorShelf
import Derived.Lib.ItoaMem
import Derived.Laws.BytesArg
import Derived.Shelf.Bytes.SlSmallAll
import Derived.Lib.ItoaLen
import Derived.Lib.AppendIntMem
namespace Go.Proofs.YtcaenbobfneejaaGreatDoor
open Go.RowKit
set_option linter.unusedVariables false
set_option linter.unusedSimpArgs false

set_option maxRecDepth 100000 in
set_option maxHeartbeats 4000000 in
theorem ref_qRead (s : ByteArray) (w : World) (hs : s.size ≤ maxLen) : Calls Tryz.prog 20 #[.string s] w fun e w' => e = .returned (.tuple #[.int .i64 (qN s.toList), .bool (qOk s.toList)]) ∧ Below w.heap.size w w' := by
  have hs' : (s.size : Int) ≤ 9223372036854775807 := by unfold maxLen at hs; omega
  go_enter Tryz.func20, Tryz.ntmps20
  go_wp2
  go_loopw [4, 5] (fun i n wr => ∃ k : Nat, k ≤ s.size ∧ i = .int .i64 k ∧ n = .int .i64 (dgn (s.toList.take k)) ∧ (∀ j (h : j < s.size), j < k → isDg s[j] = true) ∧ Below w.heap.size w wr) (fun i _ _ => s.size - (intOf i).toNat)
  case atStart => exact ⟨0, Nat.zero_le _, rfl, rfl, fun j h hj => absurd hj (by omega), Below.refl _ _⟩
  case round =>
    obtain ⟨k, hk, rfl, rfl, hall, hbr⟩ := hrel
    have hbel : Below wr.heap.size wr wr := Below.refl _ _
    by_cases hdg : ∃ h : k < s.size, isDg s[k] = true
    · obtain ⟨hlt, hd⟩ := hdg
      have HN := Lib.hid (show dgn (s.toList.take (k + 1)) = satAdd (satMul (dgn (s.toList.take k)) 10) ((s[k].toNat : Int) - 48) by rw [sl_snoc s hlt, dgn_snoc]; rfl)
      have HALL := Lib.hid (show ∀ j (h : j < s.size), j < k + 1 → isDg s[j] = true from fun j h hj => by
        rcases Nat.lt_or_ge j k with q | q
        · exact hall j h q
        · obtain rfl : j = k := by omega
          exact hd)
      have hi := dgn_in (s.toList.take k)
      have d1 : (48 : Int) ≤ (s[k].toNat : Int) := by unfold isDg at hd; simp at hd; omega
      have d2 : (s[k].toNat : Int) ≤ 57 := by unfold isDg at hd; simp at hd; omega
      generalize dgn (s.toList.take k) = n at *
      have hm := inI_mul n 10
      have h10 : InI 10 := by unfold InI; omega
      have hc : InI ((s[k].toNat : Int) - 48) := by unfold InI; omega
      have CM := Lib.hid (fun v => ref_Mul n 10 v hi h10)
      have CA := Lib.hid (fun v => ref_Add (satMul n 10) ((s[k].toNat : Int) - 48) v hm hc)
      have q1 : (k : Int) < (s.size : Int) := by omega
      have hw8 : IntKind.u8.wrap ((s[k].toNat : Int) - 48) = (s[k].toNat : Int) - 48 := IntWalk.u8_in _ (by omega)
      have hw64 : IntKind.i64.wrap ((s[k].toNat : Int) - 48) = (s[k].toNat : Int) - 48 := IntWalk.i64_in _ (by omega)
      have hwc : IntKind.i64.wrap (s[k].toNat : Int) = (s[k].toNat : Int) := IntWalk.i64_in _ (by omega)
      clear hall hd
      go_wp2
      have kk := fun d os => belStep hbel (below_regrown _ d os)
      refine wp_region_quiet_below (by kernel_rfl) (by kernel_rfl) ?_
      repeat ((with_reducible refine wpQuiet_step (fun K hK => ?_)); go_simp; (try (rw [if_neg]; rotate_left; · decide)); first | ((with_reducible refine hK _ ?_); clear hK K) | (apply Exists.intro; refine ⟨fun _ => ?_, hK _ ?_⟩; (first | (go_at_call 40; with_reducible exact regrown_of_eq (CM.out _)) | (go_at_call 39; with_reducible exact regrown_of_eq (CA.out _))); clear hK K))
      refine wpQuiet_nil (fun w1 hw1 => ?_)
      replace hbel := belStep hbel (bel_of_class hw1)
      clear hw1 kk
      clear hw8 hw64 hwc
      go_wp2
      go_roundw
      case rel => exact ⟨k + 1, by omega, by push_cast; rfl, by rw [HN.out], HALL.out, belStep hbr hbel⟩
      case measure => simp [intOf] <;> omega
    · have hst := stop_at s hall (fun h => by cases hq : isDg s[k] with | false => rfl | true => exact absurd ⟨h, hq⟩ hdg) hk
      have hu : ∀ (t : ByteArray) v, t.toList = s.toList.drop k → Calls Tryz.prog 41 #[.string t] v fun e w' => e = .returned (.int .i64 (unitL (s.toList.drop k))) ∧ Below v.heap.size v w' := fun t v ht => ht ▸ ref_Unit t v
      have hud := unitL_bd (s.toList.drop k)
      have hres : qOk s.toList = (!(k == 0) && !(unitL (s.toList.drop k) == 0)) ∧ qNum s.toList = satMul (dgn (s.toList.take k)) (unitL (s.toList.drop k)) := by
        unfold qOk qNum; rw [hst.1, hst.2]; exact ⟨rfl, rfl⟩
      have hi := dgn_in (s.toList.take k)
      generalize unitL (s.toList.drop k) = u at *
      generalize dgn (s.toList.take k) = n at *
      obtain ⟨hres1, hres2⟩ := hres
      have HR1 := Lib.hid hres1
      have HR2 := Lib.hid hres2
      have CU := Lib.hid hu
      have CM := Lib.hid (fun v => ref_Mul n u v hi (by unfold InI; omega))
      have tests : ¬ k < s.size ∨ (k < s.size ∧ ∃ h : k < s.size, ¬ (48 : Int) ≤ (s[k].toNat : Int)) ∨ (k < s.size ∧ ∃ h : k < s.size, (48 : Int) ≤ (s[k].toNat : Int) ∧ ¬ (s[k].toNat : Int) ≤ 57) := by
        rcases Nat.lt_or_ge k s.size with q | q
        · have hq : isDg s[k] = false := by cases hq : isDg s[k] with | false => rfl | true => exact absurd ⟨q, hq⟩ hdg
          unfold isDg at hq
          simp at hq
          rcases Int.lt_or_le (s[k].toNat : Int) 48 with c | c
          · exact .inr (.inl ⟨q, q, by omega⟩)
          · exact .inr (.inr ⟨q, q, c, by omega⟩)
        · exact .inl (by omega)
      have ends : k = 0 ∨ (0 < k ∧ ((k : Int) == 0) = false ∧ ¬ (k : Int) = 0 ∧ (u = 0 ∨ ((u == 0) = false ∧ ¬ u = 0))) := by
        rcases Nat.eq_zero_or_pos k with q | q
        · exact .inl q
        · refine .inr ⟨q, by simp; omega, by omega, ?_⟩
          rcases Int.decEq u 0 with c | c
          · exact .inr ⟨by simpa using c, c⟩
          · exact .inl c
      clear hst hu hres1 hres2 hall hdg hi
      rcases tests with t1 | ⟨t1, h, t2⟩ | ⟨t1, h, t2, t3⟩
      all_goals
        rcases ends with rfl | ⟨e1, e2, e3, rfl | ⟨e4, e5⟩⟩
        all_goals
          go_wp2_with (first | (go_at_call 41; (with_reducible refine (CU.out _ _ (by first | exact sl_drop _ _ | exact List.drop_zero.symm)).mono ?_); rintro e w2 ⟨rfl, hb2⟩; replace hbel := belStep hbel hb2; clear hb2) | (go_at_call 40; (with_reducible refine (CM.out _).mono ?_); rintro e w' ⟨rfl, rfl⟩))
          go_ret2
          exact ⟨ret_qb (by unfold qN; rw [HR1.out]; first | (simp; done) | (simp [*]; done) | (rw [HR2.out]; simp_all)) (by rw [HR1.out]; first | (simp; done) | simp_all), belStep hbr hbel⟩
end Go.Proofs.YtcaenbobfneejaaGreatDoor
namespace Go.Proofs.YtcaenbobfneejaaGreatDoor
open Go.RowKit
set_option linter.unusedVariables false
set_option linter.unusedSimpArgs false

theorem conv_strQ {w : World} {a : Option Addr} {len cap : Nat} {l : List Int} (h : Ints .u8 w a len cap l) : (convert 22 9 (.slice a len cap)).run Tryz.prog w = .ok (.string (strOfNums l)) w := by
  have hb := h.bounds
  by_cases h0 : len = 0
  · subst h0
    obtain rfl : l = [] := List.eq_nil_of_length_eq_zero hb.1
    exact run_convert_bytes_zero w _ _ Tryz.underlying22 Tryz.underlying5 a cap _ Tryz.underlying9
  · obtain ⟨b, off, rfl, _, hc⟩ := h.opened (by omega)
    exact run_convert_bytes_arg (P := Tryz.prog) w _ _ Tryz.underlying22 Tryz.underlying5 b off len cap l hb.1 hc _ Tryz.underlying9

/-- A number's decimal digits, as a text. -/
def ddB (u : Nat) : ByteArray := ⟨(Lib.decDigits u).toArray⟩
theorem ddB_list (u : Nat) : (ddB u).toList = Lib.decDigits u := by rw [sl]; rfl
theorem ddB_size (u : Nat) (h : u ≤ 9223372036854775807) : (ddB u).size ≤ 21 := by
  have := Lib.itoa_length_le (u : Int) (by omega) (by omega)
  rw [Lib.itoa_nonneg] at this
  simpa [ddB, ByteArray.size] using this
def Tab (w : World) : Prop := Lib.TabIs Tryz.prog w "internal/strconv.uint64pow10" .u64 Lib.pow10Tab
theorem Tab.later {w w' : World} (h : Tab w) (hb : Below w.heap.size w w') : Tab w' := Lib.tabBelow_of_tabIs h w' hb

theorem itoa_any (n : Int) (h0 : 0 ≤ n) (h1 : n ≤ 9223372036854775807) (w : World) (ht : Tab w) : Calls Tryz.prog 44 #[.int .i64 n] w fun e w' => e = .returned (.string (ddB n.toNat)) ∧ Below w.heap.size w w' := by
  refine (Tryz.strconv_Itoa n (by omega) h1 w ht).mono ?_
  rintro e w' ⟨rfl, k, os, rfl⟩
  refine ⟨?_, ?_⟩
  · obtain ⟨u, rfl⟩ : ∃ u : Nat, n = u := ⟨n.toNat, by omega⟩
    rw [Lib.itoa_nonneg]; rfl
  · exact bel_of_class ⟨⟨w.drawn + k, os⟩, rfl⟩

theorem str_one (n : Int) (h0 : 0 ≤ n) (h1 : n < 10) : strOfNums [48 + n] = ddB n.toNat := by
  unfold ddB strOfNums
  rw [dd_small (by omega), List.map_cons, List.map_nil, show (48 + n).toNat = 48 + n.toNat by omega]
theorem ddB_two (n : Int) (h0 : 10 ≤ n) : ddB (n / 10).toNat ++ ddB (n % 10).toNat = ddB n.toNat := by
  have e : (ddB (n / 10).toNat ++ ddB (n % 10).toNat).data = (ddB n.toNat).data := by
    rw [ByteArray.data_append]
    unfold ddB
    rw [dd_big (u := n.toNat) (by omega), dd_small (u := (n % 10).toNat) (by omega)]
    have e1 : (n / 10).toNat = n.toNat / 10 := by omega
    have e2 : (n % 10).toNat = n.toNat % 10 := by omega
    rw [e1, e2]; simp
  cases h1 : ddB (n / 10).toNat ++ ddB (n % 10).toNat with
  | mk a => cases h2 : ddB n.toNat with
    | mk b => rw [h1, h2] at e; simpa using e

end Go.Proofs.YtcaenbobfneejaaGreatDoor
namespace Go.Proofs.YtcaenbobfneejaaGreatDoor
open Go.RowKit
set_option linter.unusedVariables false
set_option linter.unusedSimpArgs false

/-- The first unit, of the last d, that n is a multiple of. -/
def bf (n : Int) : Nat → Option Nat
  | 0 => none
  | d + 1 => if n % unitP (8 - (d + 1)) = 0 then some (8 - (d + 1)) else bf n d
def nmO : Option Nat → ByteArray | none => ⟨#[]⟩ | some k => nmB k
def uO : Option Nat → Int | none => 1 | some k => unitP k
theorem bf_at (n : Int) {k : Nat} (h : k < 8) : bf n (8 - k) = if n % unitP k = 0 then some k else bf n (8 - (k + 1)) := by
  obtain ⟨d, hd⟩ : ∃ d, 8 - k = d + 1 := ⟨7 - k, by omega⟩
  rw [hd, bf, show 8 - (d + 1) = k by omega, show 8 - (k + 1) = d by omega]
theorem unitP_bd (k : Nat) (h : k < 8) : 1 ≤ unitP k ∧ unitP k ≤ 1099511627776 := by
  rcases (show k = 0 ∨ k = 1 ∨ k = 2 ∨ k = 3 ∨ k = 4 ∨ k = 5 ∨ k = 6 ∨ k = 7 by omega) with rfl | rfl | rfl | rfl | rfl | rfl | rfl | rfl <;> decide
theorem bf_lt (n : Int) : ∀ (d k : Nat), d ≤ 8 → bf n d = some k → k < 8 ∧ n % unitP k = 0
  | 0, k, _, h => by cases h
  | d + 1, k, hd, h => by
    unfold bf at h
    split at h
    · rename_i hc
      simp only [Option.some.injEq] at h; subst h
      exact ⟨by omega, hc⟩
    · exact bf_lt n d k (by omega) h
theorem nmO_unit (n : Int) (d : Nat) (hd : d ≤ 8) : unitL (nmO (bf n d)).toList = uO (bf n d) ∧ 1 ≤ uO (bf n d) ∧ uO (bf n d) ≤ 1099511627776 ∧ n % uO (bf n d) = 0 := by
  cases h : bf n d with
  | none => exact ⟨by rw [sl]; rfl, (by omega : (1 : Int) ≤ 1), (by omega : (1 : Int) ≤ 1099511627776), (by omega : n % (1 : Int) = 0)⟩
  | some k =>
    obtain ⟨h1, h2⟩ := bf_lt n d k hd h
    have := unitP_bd k h1
    exact ⟨by show unitL (nmB k).toList = unitP k; rw [nmB_list, unit_name h1], this.1, this.2, h2⟩
/-- What is printed of a number from 1 on. -/
def prB (n : Int) : ByteArray := ddB (n / uO (bf n 8)).toNat ++ nmO (bf n 8)
def prAll (n : Int) : ByteArray := if n ≤ 0 then ⟨#[48]⟩ else prB n
theorem app_nil (a : ByteArray) : a ++ (⟨#[]⟩ : ByteArray) = a := by
  cases a with
  | mk d =>
    have : ((⟨d⟩ : ByteArray) ++ (⟨#[]⟩ : ByteArray)).data = d := by rw [ByteArray.data_append]; simp
    cases h : (⟨d⟩ : ByteArray) ++ (⟨#[]⟩ : ByteArray) with
    | mk e => rw [h] at this; simpa using this
theorem nmB_size (k : Nat) : (nmB k).size ≤ 2 := by
  unfold nmB nmL
  split <;> decide
theorem nmO_size (o : Option Nat) : (nmO o).size ≤ 2 := by
  cases o with
  | none => decide
  | some k => exact nmB_size k
theorem prB_some {n : Int} {k : Nat} (h : bf n 8 = some k) : ddB (n / unitP k).toNat ++ nmB k = prB n := by unfold prB; rw [h]; rfl
theorem prB_none {n : Int} (h : bf n 8 = none) : ddB n.toNat = prB n := by
  unfold prB; rw [h]
  show _ = ddB (n / 1).toNat ++ (⟨#[]⟩ : ByteArray)
  rw [app_nil, Int.ediv_one]

set_option maxRecDepth 100000 in
set_option maxHeartbeats 4000000 in
theorem quant_Print (n : Int) (w : World) (hi : InI n) (ht : Tab w) : Calls Tryz.prog 42 #[.int .i64 n] w fun e w' => e = .returned (.string (prAll n)) ∧ Below w.heap.size w w' := by
  have hbel : Below w.heap.size w w := Below.refl _ _
  unfold InI at hi
  obtain ⟨hi1, hi2⟩ := hi
  by_cases h0 : n ≤ 0
  · go_enter Tryz.func42, Tryz.ntmps42
    go_wp2
    go_ret
    exact ⟨by unfold prAll; rw [if_pos h0]; rfl, hbel⟩
  · have hp : 0 < n := by omega
    have HPA := Lib.hid (show prAll n = prB n by unfold prAll; rw [if_neg h0])
    have HT := Lib.hid ht
    clear ht
    go_enter Tryz.func42, Tryz.ntmps42
    go_wp2_with (go_at_call 61; (with_reducible refine (quant_Units _).mono ?_); rintro e w1 ⟨rfl, hb1, hbel1⟩)
    clear hbel
    have HT1 := Lib.hid (HT.out.later hbel1)
    go_loopw [10] (fun i wr => ∃ k : Nat, k ≤ 8 ∧ i = .int .i64 k ∧ bf n 8 = bf n (8 - k) ∧ w1 = wr) (fun i _ => 8 - (intOf i).toNat)
    case atStart => exact ⟨0, Nat.zero_le _, rfl, rfl, rfl⟩
    case round =>
      obtain ⟨k, hk, rfl, hbf, rfl⟩ := hrel
      by_cases hlt : k < 8
      · have c0 := hb1.cell (nmC_at hlt)
        have HB := Lib.hid hb1
        have hst := bf_at n hlt
        rw [hst] at hbf
        have hub := unitP_bd k hlt
        have CU := Lib.hid (fun v => (nmB_list k ▸ unit_name hlt : unitL (nmB k).toList = unitP k) ▸ quant_Unit (nmB k) v)
        have HPS := Lib.hid (fun h => @prB_some n k h)
        generalize hu : unitP k = u at *
        clear hst hu
        rcases Int.decEq (n % u) 0 with hm | hm
        · rw [if_neg hm] at hbf
          have HBF := Lib.hid hbf
          have t1 : (n % u == 0) = false := by simpa using hm
          clear hbf hb1
          go_wp2_with (go_at_call 57; (with_reducible refine (CU.out _).mono ?_); rintro e w' ⟨rfl, rfl⟩)
          go_roundw
          case rel => exact ⟨k + 1, by omega, by push_cast; rfl, HBF.out, by first | rfl | trivial⟩
          case measure => simp [intOf] <;> omega
        · rw [if_pos hm] at hbf
          have HBF := Lib.hid hbf
          have t1 : (n % u == 0) = true := by simpa using hm
          have hq : 0 ≤ n / u := Int.ediv_nonneg (by omega) (by omega)
          have hq2 : n / u ≤ 9223372036854775807 := by
            have := Int.ediv_le_self u (show 0 ≤ n by omega)
            omega
          have CI := Lib.hid (itoa_any (n / u) hq hq2 w1 HT1.out)
          have z1 := ddB_size (n / u).toNat (by omega)
          have z2 := nmB_size k
          clear hbf hb1 hm
          go_wp2_with (first | (go_at_call 57; (with_reducible refine (CU.out _).mono ?_); rintro e w' ⟨rfl, rfl⟩) | (go_at_call 44; (with_reducible refine CI.out.mono ?_); rintro e w2 ⟨rfl, hb2⟩))
          go_ret
          exact ⟨by rw [HPA.out, ← HPS.out HBF.out]; rfl, belStep hbel1 hb2⟩
      · obtain rfl : k = 8 := by omega
        have HPN := Lib.hid (prB_none (n := n) (by rw [hbf]; rfl))
        have CI := Lib.hid (itoa_any n (by omega) hi2 w1 HT1.out)
        clear hbf hb1
        go_wp2_with (go_at_call 44; (with_reducible refine CI.out.mono ?_); rintro e w2 ⟨rfl, hb2⟩)
        go_ret
        exact ⟨by rw [HPA.out, ← HPN.out]; rfl, belStep hbel1 hb2⟩

end Go.Proofs.YtcaenbobfneejaaGreatDoor
