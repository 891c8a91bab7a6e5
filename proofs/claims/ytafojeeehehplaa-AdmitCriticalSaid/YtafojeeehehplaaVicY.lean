/- bilgeref21.Without: contract. -/
import Derived.Test.YtafojeeehehplaaVicP
namespace Go.Proofs.Ytafojeeehehplaa
open Go.RowKit
set_option linter.unusedVariables false
set_option linter.unusedSimpArgs false
set_option maxRecDepth 100000 in
set_option maxHeartbeats 16000000 in
theorem vref_Without (a : Option Addr) (len cap : Nat) (L : List PodV) (a2 : Option Addr) (n2 cap2 : Nat) (G : List ByteArray) (w : World) (hl : L.length = len) (hn : G.length = n2) (hR : Row w a len cap 11 (L.flatMap PodV.cells)) (hI : Row w a2 n2 cap2 1 (G.map Value.string)) (hlen : len ≤ 1000) :
    Calls Try.prog 20 #[.slice a len cap, .slice a2 n2 cap2] w fun e w' => ∃ v, e = .returned v ∧ OwnR w' w.heap.size 29 11 v (L.filter (fun x => !hasB G x.id)).length ((L.filter (fun x => !hasB G x.id)).flatMap PodV.cells) ∧ Below w.heap.size w w' := by
  have hbd : len ≤ cap ∧ cap ≤ 9223372036854775807 := by obtain ⟨_, h1, h2, _⟩ := hR; unfold maxLen at h2; exact ⟨h1, h2⟩
  have hbe : n2 ≤ cap2 ∧ cap2 ≤ 9223372036854775807 := by obtain ⟨_, h1, h2, _⟩ := hI; unfold maxLen at h2; exact ⟨h1, h2⟩
  obtain ⟨hbd0, hbd1⟩ := hbd
  obtain ⟨hbe0, hbe1⟩ := hbe
  have HR := Lib.hid hR
  have HI := Lib.hid hI
  clear hR hI
  subst hl
  subst hn
  have hbel : Below w.heap.size w w := Below.refl _ _
  go_enter Try.func20, Try.ntmps20
  have HB := Lib.hid hbel
  clear hbel
  go_wp2
  go_loopw [5, 6] (fun s i wr => ∃ k : Nat, k ≤ L.length ∧ i = .int .i64 k ∧ OwnR wr w.heap.size 29 11 s ((L.take k).filter (fun v => !hasB G v.id)).length (((L.take k).filter (fun v => !hasB G v.id)).flatMap PodV.cells) ∧ Below w.heap.size w wr) (fun _ i _ => L.length - (intOf i).toNat)
  case atStart => exact ⟨0, Nat.zero_le _, rfl, OwnR.nil _ _ _ _, HB.out⟩
  case round =>
    obtain ⟨k, hk, rfl, hS, hbr⟩ := hrel
    have HS := Lib.hid hS
    have HBR := Lib.hid hbr
    generalize wr = WO at *
    clear hS hbr HB
    have hf2 := filt_len (fun v => !hasB G v.id) L k
    by_cases hlt : k < L.length
    · obtain ⟨x, hx⟩ : ∃ x, L[k]? = some x := ⟨L[k], List.getElem?_eq_getElem hlt⟩
      obtain ⟨b, off, rfl, _, hc⟩ := HR.out.elem PodV.cells_len (by omega) hx
      have c0 := keep (hc 0 _ rfl)
      have c1 := keep (hc 1 _ rfl)
      have c2 := keep (hc 2 _ rfl)
      have c3 := keep (hc 3 _ rfl)
      have c4 := keep (hc 4 _ rfl)
      have c5 := keep (hc 5 _ rfl)
      have c6 := keep (hc 6 _ rfl)
      have c7 := keep (hc 7 _ rfl)
      have c8 := keep (hc 8 _ rfl)
      have c9 := keep (hc 9 _ rfl)
      have c10 := keep (hc 10 _ rfl)
      rw [Nat.add_zero] at c0
      have hd : decide ((k : Int) < (L.length : Int)) = true := decide_eq_true (by omega)
      have HX := Lib.hid hx
      clear hc hx
      go_wp2
      clear hd
      replace c0 := keepOnP c0 HBR.out
      replace c1 := keepOnP c1 HBR.out
      replace c2 := keepOnP c2 HBR.out
      replace c3 := keepOnP c3 HBR.out
      replace c4 := keepOnP c4 HBR.out
      replace c5 := keepOnP c5 HBR.out
      replace c6 := keepOnP c6 HBR.out
      replace c7 := keepOnP c7 HBR.out
      replace c8 := keepOnP c8 HBR.out
      replace c9 := keepOnP c9 HBR.out
      replace c10 := keepOnP c10 HBR.out
      go_loopw [7, 8] (fun d i wi => ∃ (m : Nat) (D : Bool), m ≤ G.length ∧ i = .int .i64 m ∧ d = .bool D ∧ Hid (hasB (G.take m) x.id = D) ∧ Below WO.heap.size WO wi) (fun _ i _ => G.length - (intOf i).toNat)
      case atStart => exact ⟨0, false, Nat.zero_le _, rfl, rfl, Lib.hid rfl, Below.refl _ _⟩
      case round =>
        obtain ⟨m, D, hm, rfl, rfl, HE, hbi⟩ := hrel
        have hbel := hbi
        by_cases hmt : m < G.length
        · obtain ⟨t, ht⟩ : ∃ t, G[m]? = some t := ⟨G[m], List.getElem?_eq_getElem hmt⟩
          obtain ⟨ab, ao, rfl, ca⟩ := text_cell HI.out ht
          have x0 := keepOnP (keep ca) HBR.out
          have hd : decide ((m : Int) < (G.length : Int)) = true := decide_eq_true (by omega)
          have hnx := has_next (s := x.id) ht
          rw [HE.out] at hnx
          have HNX := Lib.hid hnx
          have HBI := Lib.hid hbi
          clear ht ca hnx hbi HS
          cases D with
          | true =>
            go_upto_region 9 with fail
            have kk := fun d os => belStep hbel (below_regrown _ d os)
            refine wp_region_quiet_below (by kernel_rfl) (by kernel_rfl) ?_
            repeat ((with_reducible refine wpQuiet_step (fun K hK => ?_)); go_simp; (try (rw [if_neg]; rotate_left; · decide)); first | ((with_reducible refine hK _ ?_); clear hK K) | (apply Exists.intro; refine ⟨fun _ => ?_, hK _ ?_⟩; (fail); clear hK K))
            refine wpQuiet_nil (fun w1 hw1 => ?_)
            replace hbel := belStep hbel (bel_of_class hw1)
            clear hw1 kk
            go_wp2
            go_roundw
            case rel => exact ⟨m + 1, _, by omega, by push_cast; rfl, rfl, Lib.hid (by rw [HNX.out]; rfl), hbel⟩
            case measure => simp [intOf] <;> omega
          | false =>
            cases he : (t.toList == x.id.toList) with
            | true =>
              rw [he] at HNX
              go_upto_region 9 with fail
              have kk := fun d os => belStep hbel (below_regrown _ d os)
              refine wp_region_quiet_below (by kernel_rfl) (by kernel_rfl) ?_
              repeat ((with_reducible refine wpQuiet_step (fun K hK => ?_)); go_simp; (try (rw [if_neg]; rotate_left; · decide)); first | ((with_reducible refine hK _ ?_); clear hK K) | (apply Exists.intro; refine ⟨fun _ => ?_, hK _ ?_⟩; (fail); clear hK K))
              refine wpQuiet_nil (fun w1 hw1 => ?_)
              replace hbel := belStep hbel (bel_of_class hw1)
              clear hw1 kk
              go_wp2
              go_roundw
              case rel => exact ⟨m + 1, _, by omega, by push_cast; rfl, rfl, Lib.hid (by rw [HNX.out]; rfl), hbel⟩
              case measure => simp [intOf] <;> omega
            | false =>
              rw [he] at HNX
              go_upto_region 9 with fail
              have kk := fun d os => belStep hbel (below_regrown _ d os)
              refine wp_region_quiet_below (by kernel_rfl) (by kernel_rfl) ?_
              repeat ((with_reducible refine wpQuiet_step (fun K hK => ?_)); go_simp; (try (rw [if_neg]; rotate_left; · decide)); first | ((with_reducible refine hK _ ?_); clear hK K) | (apply Exists.intro; refine ⟨fun _ => ?_, hK _ ?_⟩; (fail); clear hK K))
              refine wpQuiet_nil (fun w1 hw1 => ?_)
              replace hbel := belStep hbel (bel_of_class hw1)
              clear hw1 kk
              go_wp2
              go_roundw
              case rel => exact ⟨m + 1, _, by omega, by push_cast; rfl, rfl, Lib.hid (by rw [HNX.out]; rfl), hbel⟩
              case measure => simp [intOf] <;> omega
        · obtain rfl : m = G.length := by omega
          have hd : decide ((G.length : Int) < (G.length : Int)) = false := decide_eq_false (by omega)
          rw [List.take_length] at HE
          have HBI := Lib.hid hbi
          clear hbi
          cases D with
          | true =>
            have HN2 := Lib.hid (filt_same (f := fun v => !hasB G v.id) HX.out (by rw [HE.out]; rfl))
            go_wp2
            go_roundw
            case rel => exact ⟨k + 1, by omega, by push_cast; rfl, by rw [HN2.out]; exact HS.out.later hbel, HBR.out.trans (hbel.mono HBR.out.size)⟩
            case measure => simp [intOf] <;> omega
          | false =>
            have HN2 := Lib.hid (filt_next (f := fun v => !hasB G v.id) HX.out (by rw [HE.out]; rfl))
            have HS2 := Lib.hid (OwnR.alloc (HS.out.later hbel) (.cells #[.string x.id, .int .i64 x.prio, .bool x.crit, .int .i64 x.r0, .int .i64 x.r1, .int .i64 x.r2, .int .i64 x.l0, .int .i64 x.l1, .int .i64 x.l2, .string x.img, .int .i64 x.size] 29))
            have HRX := Lib.hid (row_new wr x.cells 29 1 11 rfl (by unfold maxLen; omega))
            have hzz := HBR.out.size
            go_wp2_with (at_builtin; refine wpList_app_keep rfl _ _ 45 rfl w.heap.size 29 _ 11 104 Try.underlying45 info_pod rfl (by decide) _ _ _ rfl HS2.out _ 1 1 x.cells rfl HRX.out (pod_one x) ?c1 ?c2 ?c3 ?_)
            case c1 => simp only [maxLen]; omega
            case c2 => omega
            case c3 => have h2 := hbel.size; simp; omega
            intro v' w2 ho' _ hb' _ _
            have HO2 := Lib.hid ho'
            have HB2 := Lib.hid ((belAlloc (HBR.out.trans (hbel.mono HBR.out.size)) (.cells #[.string x.id, .int .i64 x.prio, .bool x.crit, .int .i64 x.r0, .int .i64 x.r1, .int .i64 x.r2, .int .i64 x.l0, .int .i64 x.l1, .int .i64 x.l2, .string x.img, .int .i64 x.size] 29)).trans hb')
            clear ho' hb' hbel
            go_wp2
            go_roundw
            case rel => exact ⟨k + 1, by omega, by push_cast; rfl, by rw [HN2.out]; exact own_snoc HO2.out, HB2.out⟩
            case measure => simp [intOf] <;> omega
    · obtain rfl : k = L.length := by omega
      have hd : decide ((L.length : Int) < (L.length : Int)) = false := decide_eq_false (by omega)
      have HS2 := Lib.hid (show OwnR WO w.heap.size 29 11 _ _ _ from HS.out)
      rw [List.take_length] at HS2
      go_wp2
      go_ret
      exact ⟨_, rfl, HS2.out, HBR.out⟩
end Go.Proofs.Ytafojeeehehplaa
