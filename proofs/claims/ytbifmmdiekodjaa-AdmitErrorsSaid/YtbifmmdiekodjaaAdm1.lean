
/- bilgeref20.SameTexts, bilgeref23.Pods, admit.refused, admit.Barred: contracts. -/
import Derived.Test.YtbifmmdiekodjaaAdmMath
import Derived.Test.YtbifmmdiekodjaaCfg
namespace Go.Proofs.Ytbifmmdiekodjaa
open Go.RowKit
set_option linter.unusedVariables false
set_option linter.unusedSimpArgs false
set_option maxRecDepth 100000 in
set_option maxHeartbeats 16000000 in
theorem sames_any (a b : Option Addr) (n1 n2 c1 c2 : Nat) (G H : List ByteArray) (w : World) (hn : G.length = n1) (hm : H.length = n2) (h1 : Row w a n1 c1 1 (G.map Value.string)) (h2 : Row w b n2 c2 1 (H.map Value.string)) :
    Calls Try.prog 14 #[.slice a n1 c1, .slice b n2 c2] w fun e w' => e = .returned (.bool (sameB G H)) ∧ Below w.heap.size w w' := by
  have hbd_x : n1 ≤ c1 ∧ c1 ≤ 9223372036854775807 := by obtain ⟨_, h1, h2, _⟩ := h1; unfold maxLen at h2; exact ⟨h1, h2⟩
  obtain ⟨hbd1_x, hbd2_x⟩ := hbd_x
  have hbd_y : n2 ≤ c2 ∧ c2 ≤ 9223372036854775807 := by obtain ⟨_, h1, h2, _⟩ := h2; unfold maxLen at h2; exact ⟨h1, h2⟩
  obtain ⟨hbd1_y, hbd2_y⟩ := hbd_y
  have H1 := Lib.hid h1
  have H2 := Lib.hid h2
  clear h1 h2
  subst hn hm
  have hbel : Below w.heap.size w w := Below.refl _ _
  by_cases hle : G.length = H.length
  · have hq : ((G.length : Int) != (H.length : Int)) = false := by simp [hle]
    have hq2 : ((G.length : Int) == (H.length : Int)) = true := by simp [hle]
    have HLE := Lib.hid hle
    clear hle
    go_enter Try.func14, Try.ntmps14
    go_wp2
    clear hq hq2
    have HB := Lib.hid hbel
    clear hbel
    go_loopw [5] (fun i wr => ∃ k : Nat, k ≤ G.length ∧ i = .int .i64 k ∧ G.take k = H.take k ∧ Below w.heap.size w wr) (fun i _ => G.length - (intOf i).toNat)
    case atStart => exact ⟨0, Nat.zero_le _, rfl, rfl, HB.out⟩
    case round =>
      obtain ⟨k, hk, rfl, htk, hbel⟩ := hrel
      by_cases hlt : k < G.length
      · have hlt2 : k < H.length := by rw [← HLE.out]; exact hlt
        obtain ⟨s, hs⟩ : ∃ s, G[k]? = some s := ⟨G[k], List.getElem?_eq_getElem hlt⟩
        obtain ⟨t, ht⟩ : ∃ t, H[k]? = some t := ⟨H[k], List.getElem?_eq_getElem hlt2⟩
        obtain ⟨ab, ao, rfl, ca⟩ := text_cell H1.out hs
        obtain ⟨bb, bo, rfl, cb⟩ := text_cell H2.out ht
        have x0 := keep ca
        have y0 := keep cb
        have hd : decide ((k : Int) < (G.length : Int)) = true := decide_eq_true (by omega)
        have HT := Lib.hid htk
        have HS := Lib.hid hs
        have HTT := Lib.hid ht
        clear hs ht ca cb htk
        cases he : (s.toList == t.toList) with
        | true =>
          have HN := Lib.hid (same_next HS.out HTT.out he HT.out)
          go_upto_region 6 with fail
          have kk := fun d os => belStep hbel (below_regrown _ d os)
          refine wp_region_quiet_below (by kernel_rfl) (by kernel_rfl) ?_
          repeat ((with_reducible refine wpQuiet_step (fun K hK => ?_)); go_simp; (try (rw [if_neg]; rotate_left; · decide)); first | ((with_reducible refine hK _ ?_); clear hK K) | (apply Exists.intro; refine ⟨fun _ => ?_, hK _ ?_⟩; (fail); clear hK K))
          refine wpQuiet_nil (fun w1 hw1 => ?_)
          replace hbel := belStep hbel (bel_of_class hw1)
          clear hw1 kk
          go_wp2
          go_roundw
          case rel => exact ⟨k + 1, by omega, by push_cast; rfl, HN.out, hbel⟩
          case measure => simp [intOf] <;> omega
        | false =>
          have HN := Lib.hid (same_no HS.out HTT.out he)
          go_upto_region 6 with fail
          have kk := fun d os => belStep hbel (below_regrown _ d os)
          refine wp_region_quiet_below (by kernel_rfl) (by kernel_rfl) ?_
          repeat ((with_reducible refine wpQuiet_step (fun K hK => ?_)); go_simp; (try (rw [if_neg]; rotate_left; · decide)); first | ((with_reducible refine hK _ ?_); clear hK K) | (apply Exists.intro; refine ⟨fun _ => ?_, hK _ ?_⟩; (fail); clear hK K))
          refine wpQuiet_nil (fun w1 hw1 => ?_)
          replace hbel := belStep hbel (bel_of_class hw1)
          clear hw1 kk
          go_wp2
          go_ret
          exact ⟨by rw [HN.out]; rfl, hbel⟩
      · obtain rfl : k = G.length := by omega
        have hd : decide ((G.length : Int) < (G.length : Int)) = false := decide_eq_false (by omega)
        have HN := Lib.hid (show sameB G H = true by unfold sameB; refine decide_eq_true ?_; rw [List.take_length] at htk; rw [htk, HLE.out, List.take_length])
        clear htk
        go_wp2
        go_ret
        exact ⟨by rw [HN.out]; rfl, hbel⟩
  · have hq : ((G.length : Int) != (H.length : Int)) = true := by simp; omega
    have hq2 : ((G.length : Int) == (H.length : Int)) = false := by simp; omega
    have HN := Lib.hid (same_len hle)
    clear hle
    go_enter Try.func14, Try.ntmps14
    go_wp2
    go_ret
    exact ⟨by rw [HN.out]; rfl, hbel⟩
set_option maxRecDepth 100000 in
set_option maxHeartbeats 16000000 in
theorem adm_refused (p : PodV) (a : Option Addr) (len cap : Nat) (T : List EntV) (w : World) (hl : T.length = len) (hR : Row w a len cap 12 (T.flatMap EntV.cells)) (hlen : len ≤ 100) (hp : p.ok) :
    Calls Try.prog 11 #[.slice a len cap, .agg #[.string p.id, .int .i64 p.prio, .bool p.crit, .int .i64 p.r0, .int .i64 p.r1, .int .i64 p.r2, .int .i64 p.l0, .int .i64 p.l1, .int .i64 p.l2, .string p.img, .int .i64 p.size]] w fun e w' => e = .returned (.int .i64 (refusedF T p)) ∧ Below w.heap.size w w' := by
  have hw : Below w.heap.size w w := Below.refl _ _
  have hbel := hw
  have hbd_t : len ≤ cap ∧ cap ≤ 9223372036854775807 := by obtain ⟨_, h1, h2, _⟩ := hR; unfold maxLen at h2; exact ⟨h1, h2⟩
  obtain ⟨hbd1_t, hbd2_t⟩ := hbd_t
  have HR := Lib.hid hR
  clear hR
  subst hl
  have CRT := Lib.hid (fun v => pod_Right p v hp)
  have HP := Lib.hid hp
  clear hp
  go_enter Try.func11, Try.ntmps11
  go_upto_region 1 with fail
  have pp0 : (w.alloc (.cells #[.string p.id, .int .i64 p.prio, .bool p.crit, .int .i64 p.r0, .int .i64 p.r1, .int .i64 p.r2, .int .i64 p.l0, .int .i64 p.l1, .int .i64 p.l2, .string p.img, .int .i64 p.size] 24)).cell? ⟨w.heap.size, 0, none⟩ = some (.string p.id) := by first | (simp; done) | (rw [World.cell?_alloc_at _ _ _ _ (by simp)]; rfl) | (rw [World.cell?_alloc_past _ _ _ (by simp <;> omega), World.cell?_alloc_at _ _ _ _ (by simp)]; rfl) | (rw [World.cell?_alloc_past _ _ _ (by simp <;> omega), World.cell?_alloc_past _ _ _ (by simp <;> omega), World.cell?_alloc_at _ _ _ _ (by simp)]; rfl)
  have pp1 : (w.alloc (.cells #[.string p.id, .int .i64 p.prio, .bool p.crit, .int .i64 p.r0, .int .i64 p.r1, .int .i64 p.r2, .int .i64 p.l0, .int .i64 p.l1, .int .i64 p.l2, .string p.img, .int .i64 p.size] 24)).cell? ⟨w.heap.size, 1, none⟩ = some (.int .i64 p.prio) := by first | (simp; done) | (rw [World.cell?_alloc_at _ _ _ _ (by simp)]; rfl) | (rw [World.cell?_alloc_past _ _ _ (by simp <;> omega), World.cell?_alloc_at _ _ _ _ (by simp)]; rfl) | (rw [World.cell?_alloc_past _ _ _ (by simp <;> omega), World.cell?_alloc_past _ _ _ (by simp <;> omega), World.cell?_alloc_at _ _ _ _ (by simp)]; rfl)
  have pp2 : (w.alloc (.cells #[.string p.id, .int .i64 p.prio, .bool p.crit, .int .i64 p.r0, .int .i64 p.r1, .int .i64 p.r2, .int .i64 p.l0, .int .i64 p.l1, .int .i64 p.l2, .string p.img, .int .i64 p.size] 24)).cell? ⟨w.heap.size, 2, none⟩ = some (.bool p.crit) := by first | (simp; done) | (rw [World.cell?_alloc_at _ _ _ _ (by simp)]; rfl) | (rw [World.cell?_alloc_past _ _ _ (by simp <;> omega), World.cell?_alloc_at _ _ _ _ (by simp)]; rfl) | (rw [World.cell?_alloc_past _ _ _ (by simp <;> omega), World.cell?_alloc_past _ _ _ (by simp <;> omega), World.cell?_alloc_at _ _ _ _ (by simp)]; rfl)
  have pp3 : (w.alloc (.cells #[.string p.id, .int .i64 p.prio, .bool p.crit, .int .i64 p.r0, .int .i64 p.r1, .int .i64 p.r2, .int .i64 p.l0, .int .i64 p.l1, .int .i64 p.l2, .string p.img, .int .i64 p.size] 24)).cell? ⟨w.heap.size, 3, none⟩ = some (.int .i64 p.r0) := by first | (simp; done) | (rw [World.cell?_alloc_at _ _ _ _ (by simp)]; rfl) | (rw [World.cell?_alloc_past _ _ _ (by simp <;> omega), World.cell?_alloc_at _ _ _ _ (by simp)]; rfl) | (rw [World.cell?_alloc_past _ _ _ (by simp <;> omega), World.cell?_alloc_past _ _ _ (by simp <;> omega), World.cell?_alloc_at _ _ _ _ (by simp)]; rfl)
  have pp4 : (w.alloc (.cells #[.string p.id, .int .i64 p.prio, .bool p.crit, .int .i64 p.r0, .int .i64 p.r1, .int .i64 p.r2, .int .i64 p.l0, .int .i64 p.l1, .int .i64 p.l2, .string p.img, .int .i64 p.size] 24)).cell? ⟨w.heap.size, 4, none⟩ = some (.int .i64 p.r1) := by first | (simp; done) | (rw [World.cell?_alloc_at _ _ _ _ (by simp)]; rfl) | (rw [World.cell?_alloc_past _ _ _ (by simp <;> omega), World.cell?_alloc_at _ _ _ _ (by simp)]; rfl) | (rw [World.cell?_alloc_past _ _ _ (by simp <;> omega), World.cell?_alloc_past _ _ _ (by simp <;> omega), World.cell?_alloc_at _ _ _ _ (by simp)]; rfl)
  have pp5 : (w.alloc (.cells #[.string p.id, .int .i64 p.prio, .bool p.crit, .int .i64 p.r0, .int .i64 p.r1, .int .i64 p.r2, .int .i64 p.l0, .int .i64 p.l1, .int .i64 p.l2, .string p.img, .int .i64 p.size] 24)).cell? ⟨w.heap.size, 5, none⟩ = some (.int .i64 p.r2) := by first | (simp; done) | (rw [World.cell?_alloc_at _ _ _ _ (by simp)]; rfl) | (rw [World.cell?_alloc_past _ _ _ (by simp <;> omega), World.cell?_alloc_at _ _ _ _ (by simp)]; rfl) | (rw [World.cell?_alloc_past _ _ _ (by simp <;> omega), World.cell?_alloc_past _ _ _ (by simp <;> omega), World.cell?_alloc_at _ _ _ _ (by simp)]; rfl)
  have pp6 : (w.alloc (.cells #[.string p.id, .int .i64 p.prio, .bool p.crit, .int .i64 p.r0, .int .i64 p.r1, .int .i64 p.r2, .int .i64 p.l0, .int .i64 p.l1, .int .i64 p.l2, .string p.img, .int .i64 p.size] 24)).cell? ⟨w.heap.size, 6, none⟩ = some (.int .i64 p.l0) := by first | (simp; done) | (rw [World.cell?_alloc_at _ _ _ _ (by simp)]; rfl) | (rw [World.cell?_alloc_past _ _ _ (by simp <;> omega), World.cell?_alloc_at _ _ _ _ (by simp)]; rfl) | (rw [World.cell?_alloc_past _ _ _ (by simp <;> omega), World.cell?_alloc_past _ _ _ (by simp <;> omega), World.cell?_alloc_at _ _ _ _ (by simp)]; rfl)
  have pp7 : (w.alloc (.cells #[.string p.id, .int .i64 p.prio, .bool p.crit, .int .i64 p.r0, .int .i64 p.r1, .int .i64 p.r2, .int .i64 p.l0, .int .i64 p.l1, .int .i64 p.l2, .string p.img, .int .i64 p.size] 24)).cell? ⟨w.heap.size, 7, none⟩ = some (.int .i64 p.l1) := by first | (simp; done) | (rw [World.cell?_alloc_at _ _ _ _ (by simp)]; rfl) | (rw [World.cell?_alloc_past _ _ _ (by simp <;> omega), World.cell?_alloc_at _ _ _ _ (by simp)]; rfl) | (rw [World.cell?_alloc_past _ _ _ (by simp <;> omega), World.cell?_alloc_past _ _ _ (by simp <;> omega), World.cell?_alloc_at _ _ _ _ (by simp)]; rfl)
  have pp8 : (w.alloc (.cells #[.string p.id, .int .i64 p.prio, .bool p.crit, .int .i64 p.r0, .int .i64 p.r1, .int .i64 p.r2, .int .i64 p.l0, .int .i64 p.l1, .int .i64 p.l2, .string p.img, .int .i64 p.size] 24)).cell? ⟨w.heap.size, 8, none⟩ = some (.int .i64 p.l2) := by first | (simp; done) | (rw [World.cell?_alloc_at _ _ _ _ (by simp)]; rfl) | (rw [World.cell?_alloc_past _ _ _ (by simp <;> omega), World.cell?_alloc_at _ _ _ _ (by simp)]; rfl) | (rw [World.cell?_alloc_past _ _ _ (by simp <;> omega), World.cell?_alloc_past _ _ _ (by simp <;> omega), World.cell?_alloc_at _ _ _ _ (by simp)]; rfl)
  have pp9 : (w.alloc (.cells #[.string p.id, .int .i64 p.prio, .bool p.crit, .int .i64 p.r0, .int .i64 p.r1, .int .i64 p.r2, .int .i64 p.l0, .int .i64 p.l1, .int .i64 p.l2, .string p.img, .int .i64 p.size] 24)).cell? ⟨w.heap.size, 9, none⟩ = some (.string p.img) := by first | (simp; done) | (rw [World.cell?_alloc_at _ _ _ _ (by simp)]; rfl) | (rw [World.cell?_alloc_past _ _ _ (by simp <;> omega), World.cell?_alloc_at _ _ _ _ (by simp)]; rfl) | (rw [World.cell?_alloc_past _ _ _ (by simp <;> omega), World.cell?_alloc_past _ _ _ (by simp <;> omega), World.cell?_alloc_at _ _ _ _ (by simp)]; rfl)
  have pp10 : (w.alloc (.cells #[.string p.id, .int .i64 p.prio, .bool p.crit, .int .i64 p.r0, .int .i64 p.r1, .int .i64 p.r2, .int .i64 p.l0, .int .i64 p.l1, .int .i64 p.l2, .string p.img, .int .i64 p.size] 24)).cell? ⟨w.heap.size, 10, none⟩ = some (.int .i64 p.size) := by first | (simp; done) | (rw [World.cell?_alloc_at _ _ _ _ (by simp)]; rfl) | (rw [World.cell?_alloc_past _ _ _ (by simp <;> omega), World.cell?_alloc_at _ _ _ _ (by simp)]; rfl) | (rw [World.cell?_alloc_past _ _ _ (by simp <;> omega), World.cell?_alloc_past _ _ _ (by simp <;> omega), World.cell?_alloc_at _ _ _ _ (by simp)]; rfl)
  have hb2 := (by repeat (first | exact hbel | refine belAlloc ?_ _ | refine belDrew ?_ | refine belSet ?_ _ _ (by simp)) : Below w.heap.size w (w.alloc (.cells #[.string p.id, .int .i64 p.prio, .bool p.crit, .int .i64 p.r0, .int .i64 p.r1, .int .i64 p.r2, .int .i64 p.l0, .int .i64 p.l1, .int .i64 p.l2, .string p.img, .int .i64 p.size] 24)))
  replace hw := belStep hw hb2
  clear hb2 hbel
  generalize w.alloc (.cells #[.string p.id, .int .i64 p.prio, .bool p.crit, .int .i64 p.r0, .int .i64 p.r1, .int .i64 p.r2, .int .i64 p.l0, .int .i64 p.l1, .int .i64 p.l2, .string p.img, .int .i64 p.size] 24) = W1 at *
  replace pp0 := keep pp0
  replace pp1 := keep pp1
  replace pp2 := keep pp2
  replace pp3 := keep pp3
  replace pp4 := keep pp4
  replace pp5 := keep pp5
  replace pp6 := keep pp6
  replace pp7 := keep pp7
  replace pp8 := keep pp8
  replace pp9 := keep pp9
  replace pp10 := keep pp10
  have hbel : Below W1.heap.size W1 W1 := Below.refl _ _
  skip
  have HRL := Lib.hid (fun u (hu : Below W1.heap.size W1 u) => HR.out.later (belStep hw hu))
  rcases refused_cases T p with ⟨hv, hr⟩ | ⟨hv, hr, hi⟩ | ⟨hv, hr, hi, h64⟩ | ⟨hv, hr, hi, h64⟩
  · have CR2 := Lib.hid (fun v => hr ▸ CRT.out v)
    have HV := Lib.hid hv
    clear hr hv
    go_wp2_with (go_at_call 16; (with_reducible refine (CR2.out _).mono ?_); rintro e w1 ⟨rfl, hb1⟩; replace hbel := belStep hbel hb1; clear hb1)
    go_ret
    exact ⟨by rw [HV.out]; rfl, belStep hw hbel⟩
  · have CR2 := Lib.hid (fun v => hr ▸ CRT.out v)
    have HV := Lib.hid hv
    have HI := Lib.hid hi
    clear hr hv hi
    go_wp2_with (go_at_call 16; (with_reducible refine (CR2.out _).mono ?_); rintro e w1 ⟨rfl, hb1⟩; replace hbel := belStep hbel hb1; clear hb1)
    have HB := Lib.hid hbel
    clear hbel
    go_loopw [12] (fun i wr => ∃ k : Nat, k ≤ T.length ∧ i = .int .i64 k ∧ Hid (idIn (T.take k) p.id = false) ∧ Below W1.heap.size W1 wr) (fun i _ => T.length - (intOf i).toNat)
    case atStart => exact ⟨0, Nat.zero_le _, rfl, Lib.hid rfl, HB.out⟩
    case round =>
      obtain ⟨k, hk, rfl, HT, hbel⟩ := hrel
      clear HB
      by_cases hlt : k < T.length
      · obtain ⟨x, hx⟩ : ∃ x, T[k]? = some x := ⟨T[k], List.getElem?_eq_getElem hlt⟩
        obtain ⟨bc, oc, ec, _, hcc⟩ := (HRL.out _ (Below.refl _ _)).elem EntV.cells_len (by omega) hx
        subst ec
        have c0 := keep (hcc 0 _ rfl)
        have c1 := keep (hcc 1 _ rfl)
        have c2 := keep (hcc 2 _ rfl)
        have c3 := keep (hcc 3 _ rfl)
        have c4 := keep (hcc 4 _ rfl)
        have c5 := keep (hcc 5 _ rfl)
        have c6 := keep (hcc 6 _ rfl)
        have c7 := keep (hcc 7 _ rfl)
        have c8 := keep (hcc 8 _ rfl)
        have c9 := keep (hcc 9 _ rfl)
        have c10 := keep (hcc 10 _ rfl)
        have c11 := keep (hcc 11 _ rfl)
        rw [Nat.add_zero] at c0
        have hd : decide ((k : Int) < (T.length : Int)) = true := decide_eq_true (by omega)
        have hnx := idIn_next (s := p.id) hx
        rw [HT.out, Bool.false_or] at hnx
        have HNX := Lib.hid hnx
        have HX := Lib.hid hx
        clear hx hcc hnx
        cases he : (x.pod.id.toList == p.id.toList) with
        | false =>
          rw [he] at HNX
          go_wp2
          go_roundw
          case rel => exact ⟨k + 1, by omega, by push_cast; rfl, HNX, (by repeat (first | exact hbel | refine belAlloc ?_ _ | refine belSet ?_ _ _ (by simpa using hbel.size)))⟩
          case measure => simp [intOf] <;> omega
        | true =>
          go_wp2
          go_ret
          exact ⟨by rw [HV.out]; rfl, belStep hw (by repeat (first | exact hbel | refine belAlloc ?_ _ | refine belSet ?_ _ _ (by simpa using hbel.size)))⟩
      · obtain rfl : k = T.length := by omega
        have hd : decide ((T.length : Int) < (T.length : Int)) = false := decide_eq_false (by omega)
        rw [List.take_length, HI.out] at HT
        cases HT.out
  · have CR2 := Lib.hid (fun v => hr ▸ CRT.out v)
    have HV := Lib.hid hv
    have HI := Lib.hid hi
    clear hr hv hi
    go_wp2_with (go_at_call 16; (with_reducible refine (CR2.out _).mono ?_); rintro e w1 ⟨rfl, hb1⟩; replace hbel := belStep hbel hb1; clear hb1)
    have HB := Lib.hid hbel
    clear hbel
    go_loopw [12] (fun i wr => ∃ k : Nat, k ≤ T.length ∧ i = .int .i64 k ∧ Hid (idIn (T.take k) p.id = false) ∧ Below W1.heap.size W1 wr) (fun i _ => T.length - (intOf i).toNat)
    case atStart => exact ⟨0, Nat.zero_le _, rfl, Lib.hid rfl, HB.out⟩
    case round =>
      obtain ⟨k, hk, rfl, HT, hbel⟩ := hrel
      clear HB
      by_cases hlt : k < T.length
      · obtain ⟨x, hx⟩ : ∃ x, T[k]? = some x := ⟨T[k], List.getElem?_eq_getElem hlt⟩
        obtain ⟨bc, oc, ec, _, hcc⟩ := (HRL.out _ (Below.refl _ _)).elem EntV.cells_len (by omega) hx
        subst ec
        have c0 := keep (hcc 0 _ rfl)
        have c1 := keep (hcc 1 _ rfl)
        have c2 := keep (hcc 2 _ rfl)
        have c3 := keep (hcc 3 _ rfl)
        have c4 := keep (hcc 4 _ rfl)
        have c5 := keep (hcc 5 _ rfl)
        have c6 := keep (hcc 6 _ rfl)
        have c7 := keep (hcc 7 _ rfl)
        have c8 := keep (hcc 8 _ rfl)
        have c9 := keep (hcc 9 _ rfl)
        have c10 := keep (hcc 10 _ rfl)
        have c11 := keep (hcc 11 _ rfl)
        rw [Nat.add_zero] at c0
        have hd : decide ((k : Int) < (T.length : Int)) = true := decide_eq_true (by omega)
        have hnx := idIn_next (s := p.id) hx
        rw [HT.out, Bool.false_or] at hnx
        have HNX := Lib.hid hnx
        have HX := Lib.hid hx
        clear hx hcc hnx
        cases he : (x.pod.id.toList == p.id.toList) with
        | false =>
          rw [he] at HNX
          go_wp2
          go_roundw
          case rel => exact ⟨k + 1, by omega, by push_cast; rfl, HNX, (by repeat (first | exact hbel | refine belAlloc ?_ _ | refine belSet ?_ _ _ (by simpa using hbel.size)))⟩
          case measure => simp [intOf] <;> omega
        | true =>
          have := idIn_now HX.out he
          rw [HI.out] at this
          cases this
      · obtain rfl : k = T.length := by omega
        have hd : decide ((T.length : Int) < (T.length : Int)) = false := decide_eq_false (by omega)
        have hd2 : (64 : Int) ≤ (T.length : Int) := by omega
        go_wp2
        go_ret
        exact ⟨by rw [HV.out]; rfl, belStep hw hbel⟩
  · have CR2 := Lib.hid (fun v => hr ▸ CRT.out v)
    have HV := Lib.hid hv
    have HI := Lib.hid hi
    clear hr hv hi
    go_wp2_with (go_at_call 16; (with_reducible refine (CR2.out _).mono ?_); rintro e w1 ⟨rfl, hb1⟩; replace hbel := belStep hbel hb1; clear hb1)
    have HB := Lib.hid hbel
    clear hbel
    go_loopw [12] (fun i wr => ∃ k : Nat, k ≤ T.length ∧ i = .int .i64 k ∧ Hid (idIn (T.take k) p.id = false) ∧ Below W1.heap.size W1 wr) (fun i _ => T.length - (intOf i).toNat)
    case atStart => exact ⟨0, Nat.zero_le _, rfl, Lib.hid rfl, HB.out⟩
    case round =>
      obtain ⟨k, hk, rfl, HT, hbel⟩ := hrel
      clear HB
      by_cases hlt : k < T.length
      · obtain ⟨x, hx⟩ : ∃ x, T[k]? = some x := ⟨T[k], List.getElem?_eq_getElem hlt⟩
        obtain ⟨bc, oc, ec, _, hcc⟩ := (HRL.out _ (Below.refl _ _)).elem EntV.cells_len (by omega) hx
        subst ec
        have c0 := keep (hcc 0 _ rfl)
        have c1 := keep (hcc 1 _ rfl)
        have c2 := keep (hcc 2 _ rfl)
        have c3 := keep (hcc 3 _ rfl)
        have c4 := keep (hcc 4 _ rfl)
        have c5 := keep (hcc 5 _ rfl)
        have c6 := keep (hcc 6 _ rfl)
        have c7 := keep (hcc 7 _ rfl)
        have c8 := keep (hcc 8 _ rfl)
        have c9 := keep (hcc 9 _ rfl)
        have c10 := keep (hcc 10 _ rfl)
        have c11 := keep (hcc 11 _ rfl)
        rw [Nat.add_zero] at c0
        have hd : decide ((k : Int) < (T.length : Int)) = true := decide_eq_true (by omega)
        have hnx := idIn_next (s := p.id) hx
        rw [HT.out, Bool.false_or] at hnx
        have HNX := Lib.hid hnx
        have HX := Lib.hid hx
        clear hx hcc hnx
        cases he : (x.pod.id.toList == p.id.toList) with
        | false =>
          rw [he] at HNX
          go_wp2
          go_roundw
          case rel => exact ⟨k + 1, by omega, by push_cast; rfl, HNX, (by repeat (first | exact hbel | refine belAlloc ?_ _ | refine belSet ?_ _ _ (by simpa using hbel.size)))⟩
          case measure => simp [intOf] <;> omega
        | true =>
          have := idIn_now HX.out he
          rw [HI.out] at this
          cases this
      · obtain rfl : k = T.length := by omega
        have hd : decide ((T.length : Int) < (T.length : Int)) = false := decide_eq_false (by omega)
        have hd2 : ¬ ((64 : Int) ≤ (T.length : Int)) := by omega
        go_wp2
        go_ret
        exact ⟨by rw [HV.out]; rfl, belStep hw hbel⟩
set_option maxRecDepth 100000 in
set_option maxHeartbeats 16000000 in
theorem adm_Barred (O : On) (p : PodV) (w : World) :
    Calls Try.prog 10 #[.agg #[.bool O.a, .bool O.b, .bool O.c], .agg #[.string p.id, .int .i64 p.prio, .bool p.crit, .int .i64 p.r0, .int .i64 p.r1, .int .i64 p.r2, .int .i64 p.l0, .int .i64 p.l1, .int .i64 p.l2, .string p.img, .int .i64 p.size]] w fun e w' => e = .returned (.tuple #[.int .i64 ((barredF O p).getD 0), .bool (barredF O p).isSome]) ∧ Below w.heap.size w w' := by
  have hw : Below w.heap.size w w := Below.refl _ _
  have hbel := hw
  have CQ := Lib.hid (fun v => qos_Class p.id p.prio p.crit p.r0 p.r1 p.r2 p.l0 p.l1 p.l2 p.img p.size v)
  obtain ⟨cl, hcl⟩ : ∃ c, classI p.r0 p.r1 p.r2 p.l0 p.l1 p.l2 = c := ⟨_, rfl⟩
  obtain ⟨cr, hcr⟩ : ∃ c, p.crit = c := ⟨_, rfl⟩
  have HV := Lib.hid (show barredF O p = if cr then none else if O.a && cl == 3 then some 0 else if O.b then some 1 else if O.c then some 2 else none by unfold barredF classP; rw [hcl, hcr])
  rw [hcl] at CQ
  clear hcl
  obtain ⟨o0, o1, o2⟩ := O
  simp only [hcr] at CQ ⊢
  clear hcr
  go_enter Try.func10, Try.ntmps10
  go_upto_region 1 with fail
  have oo0 : ((w.alloc (.cells #[.bool o0, .bool o1, .bool o2] 25)).alloc (.cells #[.string p.id, .int .i64 p.prio, .bool cr, .int .i64 p.r0, .int .i64 p.r1, .int .i64 p.r2, .int .i64 p.l0, .int .i64 p.l1, .int .i64 p.l2, .string p.img, .int .i64 p.size] 24)).cell? ⟨w.heap.size, 0, none⟩ = some (.bool o0) := by first | (simp; done) | (rw [World.cell?_alloc_at _ _ _ _ (by simp)]; rfl) | (rw [World.cell?_alloc_past _ _ _ (by simp <;> omega), World.cell?_alloc_at _ _ _ _ (by simp)]; rfl) | (rw [World.cell?_alloc_past _ _ _ (by simp <;> omega), World.cell?_alloc_past _ _ _ (by simp <;> omega), World.cell?_alloc_at _ _ _ _ (by simp)]; rfl)
  have oo1 : ((w.alloc (.cells #[.bool o0, .bool o1, .bool o2] 25)).alloc (.cells #[.string p.id, .int .i64 p.prio, .bool cr, .int .i64 p.r0, .int .i64 p.r1, .int .i64 p.r2, .int .i64 p.l0, .int .i64 p.l1, .int .i64 p.l2, .string p.img, .int .i64 p.size] 24)).cell? ⟨w.heap.size, 1, none⟩ = some (.bool o1) := by first | (simp; done) | (rw [World.cell?_alloc_at _ _ _ _ (by simp)]; rfl) | (rw [World.cell?_alloc_past _ _ _ (by simp <;> omega), World.cell?_alloc_at _ _ _ _ (by simp)]; rfl) | (rw [World.cell?_alloc_past _ _ _ (by simp <;> omega), World.cell?_alloc_past _ _ _ (by simp <;> omega), World.cell?_alloc_at _ _ _ _ (by simp)]; rfl)
  have oo2 : ((w.alloc (.cells #[.bool o0, .bool o1, .bool o2] 25)).alloc (.cells #[.string p.id, .int .i64 p.prio, .bool cr, .int .i64 p.r0, .int .i64 p.r1, .int .i64 p.r2, .int .i64 p.l0, .int .i64 p.l1, .int .i64 p.l2, .string p.img, .int .i64 p.size] 24)).cell? ⟨w.heap.size, 2, none⟩ = some (.bool o2) := by first | (simp; done) | (rw [World.cell?_alloc_at _ _ _ _ (by simp)]; rfl) | (rw [World.cell?_alloc_past _ _ _ (by simp <;> omega), World.cell?_alloc_at _ _ _ _ (by simp)]; rfl) | (rw [World.cell?_alloc_past _ _ _ (by simp <;> omega), World.cell?_alloc_past _ _ _ (by simp <;> omega), World.cell?_alloc_at _ _ _ _ (by simp)]; rfl)
  have pp0 : ((w.alloc (.cells #[.bool o0, .bool o1, .bool o2] 25)).alloc (.cells #[.string p.id, .int .i64 p.prio, .bool cr, .int .i64 p.r0, .int .i64 p.r1, .int .i64 p.r2, .int .i64 p.l0, .int .i64 p.l1, .int .i64 p.l2, .string p.img, .int .i64 p.size] 24)).cell? ⟨w.heap.size + 1, 0, none⟩ = some (.string p.id) := by first | (simp; done) | (rw [World.cell?_alloc_at _ _ _ _ (by simp)]; rfl) | (rw [World.cell?_alloc_past _ _ _ (by simp <;> omega), World.cell?_alloc_at _ _ _ _ (by simp)]; rfl) | (rw [World.cell?_alloc_past _ _ _ (by simp <;> omega), World.cell?_alloc_past _ _ _ (by simp <;> omega), World.cell?_alloc_at _ _ _ _ (by simp)]; rfl)
  have pp1 : ((w.alloc (.cells #[.bool o0, .bool o1, .bool o2] 25)).alloc (.cells #[.string p.id, .int .i64 p.prio, .bool cr, .int .i64 p.r0, .int .i64 p.r1, .int .i64 p.r2, .int .i64 p.l0, .int .i64 p.l1, .int .i64 p.l2, .string p.img, .int .i64 p.size] 24)).cell? ⟨w.heap.size + 1, 1, none⟩ = some (.int .i64 p.prio) := by first | (simp; done) | (rw [World.cell?_alloc_at _ _ _ _ (by simp)]; rfl) | (rw [World.cell?_alloc_past _ _ _ (by simp <;> omega), World.cell?_alloc_at _ _ _ _ (by simp)]; rfl) | (rw [World.cell?_alloc_past _ _ _ (by simp <;> omega), World.cell?_alloc_past _ _ _ (by simp <;> omega), World.cell?_alloc_at _ _ _ _ (by simp)]; rfl)
  have pp2 : ((w.alloc (.cells #[.bool o0, .bool o1, .bool o2] 25)).alloc (.cells #[.string p.id, .int .i64 p.prio, .bool cr, .int .i64 p.r0, .int .i64 p.r1, .int .i64 p.r2, .int .i64 p.l0, .int .i64 p.l1, .int .i64 p.l2, .string p.img, .int .i64 p.size] 24)).cell? ⟨w.heap.size + 1, 2, none⟩ = some (.bool cr) := by first | (simp; done) | (rw [World.cell?_alloc_at _ _ _ _ (by simp)]; rfl) | (rw [World.cell?_alloc_past _ _ _ (by simp <;> omega), World.cell?_alloc_at _ _ _ _ (by simp)]; rfl) | (rw [World.cell?_alloc_past _ _ _ (by simp <;> omega), World.cell?_alloc_past _ _ _ (by simp <;> omega), World.cell?_alloc_at _ _ _ _ (by simp)]; rfl)
  have pp3 : ((w.alloc (.cells #[.bool o0, .bool o1, .bool o2] 25)).alloc (.cells #[.string p.id, .int .i64 p.prio, .bool cr, .int .i64 p.r0, .int .i64 p.r1, .int .i64 p.r2, .int .i64 p.l0, .int .i64 p.l1, .int .i64 p.l2, .string p.img, .int .i64 p.size] 24)).cell? ⟨w.heap.size + 1, 3, none⟩ = some (.int .i64 p.r0) := by first | (simp; done) | (rw [World.cell?_alloc_at _ _ _ _ (by simp)]; rfl) | (rw [World.cell?_alloc_past _ _ _ (by simp <;> omega), World.cell?_alloc_at _ _ _ _ (by simp)]; rfl) | (rw [World.cell?_alloc_past _ _ _ (by simp <;> omega), World.cell?_alloc_past _ _ _ (by simp <;> omega), World.cell?_alloc_at _ _ _ _ (by simp)]; rfl)
  have pp4 : ((w.alloc (.cells #[.bool o0, .bool o1, .bool o2] 25)).alloc (.cells #[.string p.id, .int .i64 p.prio, .bool cr, .int .i64 p.r0, .int .i64 p.r1, .int .i64 p.r2, .int .i64 p.l0, .int .i64 p.l1, .int .i64 p.l2, .string p.img, .int .i64 p.size] 24)).cell? ⟨w.heap.size + 1, 4, none⟩ = some (.int .i64 p.r1) := by first | (simp; done) | (rw [World.cell?_alloc_at _ _ _ _ (by simp)]; rfl) | (rw [World.cell?_alloc_past _ _ _ (by simp <;> omega), World.cell?_alloc_at _ _ _ _ (by simp)]; rfl) | (rw [World.cell?_alloc_past _ _ _ (by simp <;> omega), World.cell?_alloc_past _ _ _ (by simp <;> omega), World.cell?_alloc_at _ _ _ _ (by simp)]; rfl)
  have pp5 : ((w.alloc (.cells #[.bool o0, .bool o1, .bool o2] 25)).alloc (.cells #[.string p.id, .int .i64 p.prio, .bool cr, .int .i64 p.r0, .int .i64 p.r1, .int .i64 p.r2, .int .i64 p.l0, .int .i64 p.l1, .int .i64 p.l2, .string p.img, .int .i64 p.size] 24)).cell? ⟨w.heap.size + 1, 5, none⟩ = some (.int .i64 p.r2) := by first | (simp; done) | (rw [World.cell?_alloc_at _ _ _ _ (by simp)]; rfl) | (rw [World.cell?_alloc_past _ _ _ (by simp <;> omega), World.cell?_alloc_at _ _ _ _ (by simp)]; rfl) | (rw [World.cell?_alloc_past _ _ _ (by simp <;> omega), World.cell?_alloc_past _ _ _ (by simp <;> omega), World.cell?_alloc_at _ _ _ _ (by simp)]; rfl)
  have pp6 : ((w.alloc (.cells #[.bool o0, .bool o1, .bool o2] 25)).alloc (.cells #[.string p.id, .int .i64 p.prio, .bool cr, .int .i64 p.r0, .int .i64 p.r1, .int .i64 p.r2, .int .i64 p.l0, .int .i64 p.l1, .int .i64 p.l2, .string p.img, .int .i64 p.size] 24)).cell? ⟨w.heap.size + 1, 6, none⟩ = some (.int .i64 p.l0) := by first | (simp; done) | (rw [World.cell?_alloc_at _ _ _ _ (by simp)]; rfl) | (rw [World.cell?_alloc_past _ _ _ (by simp <;> omega), World.cell?_alloc_at _ _ _ _ (by simp)]; rfl) | (rw [World.cell?_alloc_past _ _ _ (by simp <;> omega), World.cell?_alloc_past _ _ _ (by simp <;> omega), World.cell?_alloc_at _ _ _ _ (by simp)]; rfl)
  have pp7 : ((w.alloc (.cells #[.bool o0, .bool o1, .bool o2] 25)).alloc (.cells #[.string p.id, .int .i64 p.prio, .bool cr, .int .i64 p.r0, .int .i64 p.r1, .int .i64 p.r2, .int .i64 p.l0, .int .i64 p.l1, .int .i64 p.l2, .string p.img, .int .i64 p.size] 24)).cell? ⟨w.heap.size + 1, 7, none⟩ = some (.int .i64 p.l1) := by first | (simp; done) | (rw [World.cell?_alloc_at _ _ _ _ (by simp)]; rfl) | (rw [World.cell?_alloc_past _ _ _ (by simp <;> omega), World.cell?_alloc_at _ _ _ _ (by simp)]; rfl) | (rw [World.cell?_alloc_past _ _ _ (by simp <;> omega), World.cell?_alloc_past _ _ _ (by simp <;> omega), World.cell?_alloc_at _ _ _ _ (by simp)]; rfl)
  have pp8 : ((w.alloc (.cells #[.bool o0, .bool o1, .bool o2] 25)).alloc (.cells #[.string p.id, .int .i64 p.prio, .bool cr, .int .i64 p.r0, .int .i64 p.r1, .int .i64 p.r2, .int .i64 p.l0, .int .i64 p.l1, .int .i64 p.l2, .string p.img, .int .i64 p.size] 24)).cell? ⟨w.heap.size + 1, 8, none⟩ = some (.int .i64 p.l2) := by first | (simp; done) | (rw [World.cell?_alloc_at _ _ _ _ (by simp)]; rfl) | (rw [World.cell?_alloc_past _ _ _ (by simp <;> omega), World.cell?_alloc_at _ _ _ _ (by simp)]; rfl) | (rw [World.cell?_alloc_past _ _ _ (by simp <;> omega), World.cell?_alloc_past _ _ _ (by simp <;> omega), World.cell?_alloc_at _ _ _ _ (by simp)]; rfl)
  have pp9 : ((w.alloc (.cells #[.bool o0, .bool o1, .bool o2] 25)).alloc (.cells #[.string p.id, .int .i64 p.prio, .bool cr, .int .i64 p.r0, .int .i64 p.r1, .int .i64 p.r2, .int .i64 p.l0, .int .i64 p.l1, .int .i64 p.l2, .string p.img, .int .i64 p.size] 24)).cell? ⟨w.heap.size + 1, 9, none⟩ = some (.string p.img) := by first | (simp; done) | (rw [World.cell?_alloc_at _ _ _ _ (by simp)]; rfl) | (rw [World.cell?_alloc_past _ _ _ (by simp <;> omega), World.cell?_alloc_at _ _ _ _ (by simp)]; rfl) | (rw [World.cell?_alloc_past _ _ _ (by simp <;> omega), World.cell?_alloc_past _ _ _ (by simp <;> omega), World.cell?_alloc_at _ _ _ _ (by simp)]; rfl)
  have pp10 : ((w.alloc (.cells #[.bool o0, .bool o1, .bool o2] 25)).alloc (.cells #[.string p.id, .int .i64 p.prio, .bool cr, .int .i64 p.r0, .int .i64 p.r1, .int .i64 p.r2, .int .i64 p.l0, .int .i64 p.l1, .int .i64 p.l2, .string p.img, .int .i64 p.size] 24)).cell? ⟨w.heap.size + 1, 10, none⟩ = some (.int .i64 p.size) := by first | (simp; done) | (rw [World.cell?_alloc_at _ _ _ _ (by simp)]; rfl) | (rw [World.cell?_alloc_past _ _ _ (by simp <;> omega), World.cell?_alloc_at _ _ _ _ (by simp)]; rfl) | (rw [World.cell?_alloc_past _ _ _ (by simp <;> omega), World.cell?_alloc_past _ _ _ (by simp <;> omega), World.cell?_alloc_at _ _ _ _ (by simp)]; rfl)
  have hb2 := (by repeat (first | exact hbel | refine belAlloc ?_ _ | refine belDrew ?_ | refine belSet ?_ _ _ (by simp)) : Below w.heap.size w ((w.alloc (.cells #[.bool o0, .bool o1, .bool o2] 25)).alloc (.cells #[.string p.id, .int .i64 p.prio, .bool cr, .int .i64 p.r0, .int .i64 p.r1, .int .i64 p.r2, .int .i64 p.l0, .int .i64 p.l1, .int .i64 p.l2, .string p.img, .int .i64 p.size] 24)))
  replace hw := belStep hw hb2
  clear hb2 hbel
  generalize (w.alloc (.cells #[.bool o0, .bool o1, .bool o2] 25)).alloc (.cells #[.string p.id, .int .i64 p.prio, .bool cr, .int .i64 p.r0, .int .i64 p.r1, .int .i64 p.r2, .int .i64 p.l0, .int .i64 p.l1, .int .i64 p.l2, .string p.img, .int .i64 p.size] 24) = W1 at *
  replace oo0 := keep oo0
  replace oo1 := keep oo1
  replace oo2 := keep oo2
  replace pp0 := keep pp0
  replace pp1 := keep pp1
  replace pp2 := keep pp2
  replace pp3 := keep pp3
  replace pp4 := keep pp4
  replace pp5 := keep pp5
  replace pp6 := keep pp6
  replace pp7 := keep pp7
  replace pp8 := keep pp8
  replace pp9 := keep pp9
  replace pp10 := keep pp10
  have hbel : Below W1.heap.size W1 W1 := Below.refl _ _
  skip
  by_cases hc3 : cl = 3
  · have hq : (cl == 3) = true := by simp [hc3]
    rw [hq] at HV
    clear hc3
    cases cr <;> cases o0 <;> cases o1 <;> cases o2
    all_goals
      go_wp2_with (go_at_call 15; (with_reducible refine (CQ.out _).mono ?_); rintro e w1 ⟨rfl, hb1⟩; replace hbel := belStep hbel hb1; clear hb1)
      go_ret2
      exact ⟨by rw [HV.out]; rfl, belStep hw hbel⟩
  · have hq : (cl == 3) = false := by simp [hc3]
    rw [hq] at HV
    clear hc3
    cases cr <;> cases o0 <;> cases o1 <;> cases o2
    all_goals
      go_wp2_with (go_at_call 15; (with_reducible refine (CQ.out _).mono ?_); rintro e w1 ⟨rfl, hb1⟩; replace hbel := belStep hbel hb1; clear hb1)
      go_ret2
      exact ⟨by rw [HV.out]; rfl, belStep hw hbel⟩
end Go.Proofs.Ytbifmmdiekodjaa
