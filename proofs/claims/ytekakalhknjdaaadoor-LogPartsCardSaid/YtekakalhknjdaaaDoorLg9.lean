
/- Stage 27: Count, Lines: contracts. -/
import Derived.Test.YtekakalhknjdaaaDoorLg8
namespace Go.Proofs.YtekakalhknjdaaaDoor
open Go.RowKit
set_option linter.unusedVariables false
set_option linter.unusedSimpArgs false
/-- All events of steps, with their rounds. -/
def evsS (x : StepV) : List (Int × EvV) := x.E.map (fun e => (x.round, e))
def evsOf (L : List StepV) : List (Int × EvV) := L.flatMap evsS
theorem evs_next {L : List StepV} {k : Nat} {x : StepV} (h : L[k]? = some x) : evsOf (L.take (k + 1)) = evsOf (L.take k) ++ evsS x := by
  unfold evsOf
  rw [takeG_next h, List.flatMap_append]
  simp
theorem evs_in {x : StepV} {j : Nat} {y : EvV} (h : x.E[j]? = some y) : (evsS x).take (j + 1) = (evsS x).take j ++ [(x.round, y)] := takeG_next (by unfold evsS; rw [List.getElem?_map, h]; rfl)
theorem evs_len (L : List StepV) (k : Nat) : (evsOf (L.take k)).length ≤ (evsOf L).length := by
  unfold evsOf
  conv => rhs; rw [← List.take_append_drop k L, List.flatMap_append]
  simp
theorem evs_lenI {L : List StepV} {k : Nat} {x : StepV} (h : L[k]? = some x) (j : Nat) : (evsOf (L.take k) ++ (evsS x).take j).length ≤ (evsOf L).length := by
  have h1 := evs_len L (k + 1)
  rw [evs_next h] at h1
  simp only [List.length_append, List.length_take] at h1 ⊢
  omega
theorem cntL_nil : cntL [] = [.int .i64 0, .int .i64 0, .int .i64 0, .int .i64 0, .int .i64 0, .int .i64 0, .int .i64 0, .int .i64 0, .int .i64 0, .int .i64 0, .int .i64 0, .int .i64 0, .int .i64 0, .int .i64 0, .int .i64 0, .int .i64 0, .int .i64 0] := rfl
theorem cntL_17 (A : List (Int × EvV)) : ∃ n : Nat → Int, cntL A = [.int .i64 (n 0), .int .i64 (n 1), .int .i64 (n 2), .int .i64 (n 3), .int .i64 (n 4), .int .i64 (n 5), .int .i64 (n 6), .int .i64 (n 7), .int .i64 (n 8), .int .i64 (n 9), .int .i64 (n 10), .int .i64 (n 11), .int .i64 (n 12), .int .i64 (n 13), .int .i64 (n 14), .int .i64 (n 15), .int .i64 (n 16)] := ⟨fun k => if k = 0 then 0 else ((cntK A (k : Int) : Nat) : Int), rfl⟩
theorem count_fin {W : World} {n : Nat → Int} {z : Nat} {T : TypeId} (h : Blk W z [.int .i64 (n 0), .int .i64 (n 1), .int .i64 (n 2), .int .i64 (n 3), .int .i64 (n 4), .int .i64 (n 5), .int .i64 (n 6), .int .i64 (n 7), .int .i64 (n 8), .int .i64 (n 9), .int .i64 (n 10), .int .i64 (n 11), .int .i64 (n 12), .int .i64 (n 13), .int .i64 (n 14), .int .i64 (n 15), .int .i64 (n 16)] T) (t : Array Value) (ht : t.getD 2 undef = .pointer (some ⟨z, 0, none⟩)) : (results Tryd.f18 t).run Tryd.prog W = .ok (.agg #[.int .i64 (n 0), .int .i64 (n 1), .int .i64 (n 2), .int .i64 (n 3), .int .i64 (n 4), .int .i64 (n 5), .int .i64 (n 6), .int .i64 (n 7), .int .i64 (n 8), .int .i64 (n 9), .int .i64 (n 10), .int .i64 (n 11), .int .i64 (n 12), .int .i64 (n 13), .int .i64 (n 14), .int .i64 (n 15), .int .i64 (n 16)]) W := by
  have p0 := h.cell (j := 0) rfl
  have p1 := h.cell (j := 1) rfl
  have p2 := h.cell (j := 2) rfl
  have p3 := h.cell (j := 3) rfl
  have p4 := h.cell (j := 4) rfl
  have p5 := h.cell (j := 5) rfl
  have p6 := h.cell (j := 6) rfl
  have p7 := h.cell (j := 7) rfl
  have p8 := h.cell (j := 8) rfl
  have p9 := h.cell (j := 9) rfl
  have p10 := h.cell (j := 10) rfl
  have p11 := h.cell (j := 11) rfl
  have p12 := h.cell (j := 12) rfl
  have p13 := h.cell (j := 13) rfl
  have p14 := h.cell (j := 14) rfl
  have p15 := h.cell (j := 15) rfl
  have p16 := h.cell (j := 16) rfl
  have ht' : t[2]?.getD undef = .pointer (some ⟨z, 0, none⟩) := by rw [← ht]; simp
  simp [results, Tryd.results18, go_sem, ht', p0, p1, p2, p3, p4, p5, p6, p7, p8, p9, p10, p11, p12, p13, p14, p15, p16]
theorem cntL_cell {w : World} {M : Nat} {A : List (Int × EvV)} {T : TypeId} (h : Blk w M (cntL A) T) {k : Nat} (h0 : 0 < k) (hk : k < 17) : w.cell? ⟨M, k, none⟩ = some (.int .i64 ((cntK A (k : Int) : Nat) : Int)) := by
  have := h.cell (cntL_at A hk)
  rw [if_neg (by omega)] at this
  exact this
set_option maxRecDepth 100000 in
set_option maxHeartbeats 64000000 in
theorem lg_Count (a : Option Addr) (len cap : Nat) (L : List StepV) (w : World) (hl : L.length = len) (hG : ∀ x ∈ L, x.good w) (hR : Row w a len cap 7 (L.flatMap StepV.cells)) (hT : (evsOf L).length ≤ 1000000) :
    Calls Tryd.prog 18 #[.slice a len cap] w fun e w' => (e = .returned (.agg (cntL (evsOf L)).toArray)) ∧ Below w.heap.size w w' := by
  have hbd_a : len ≤ cap ∧ cap ≤ 9223372036854775807 := by obtain ⟨_, h1, h2, _⟩ := hR; unfold maxLen at h2; exact ⟨h1, h2⟩
  obtain ⟨hbd1_a, hbd2_a⟩ := hbd_a
  have HR := Lib.hid hR
  have HG := Lib.hid hG
  have HT := Lib.hid hT
  clear hR hG hT
  subst hl
  go_enter Tryd.func18, Tryd.ntmps18
  go_upto_region 2 with fail
  have HB0 := Lib.hid (belAlloc (belAlloc (Below.refl w.heap.size w) (.cells #[.int .i64 0, .int .i64 0, .int .i64 0, .int .i64 0, .int .i64 0, .int .i64 0, .int .i64 0, .int .i64 0, .int .i64 0, .int .i64 0, .int .i64 0, .int .i64 0, .int .i64 0, .int .i64 0, .int .i64 0, .int .i64 0, .int .i64 0] 42)) (.cells #[.int .i64 0, .int .i64 0, .int .i64 0, .int .i64 0, .int .i64 0, .int .i64 0, .int .i64 0, .int .i64 0, .int .i64 0, .int .i64 0, .int .i64 0, .int .i64 0, .int .i64 0, .int .i64 0, .int .i64 0, .int .i64 0, .int .i64 0] 42))
  have HZ := Lib.hid ((Blk.new w [.int .i64 0, .int .i64 0, .int .i64 0, .int .i64 0, .int .i64 0, .int .i64 0, .int .i64 0, .int .i64 0, .int .i64 0, .int .i64 0, .int .i64 0, .int .i64 0, .int .i64 0, .int .i64 0, .int .i64 0, .int .i64 0, .int .i64 0] 42).later (belAlloc (Below.refl _ _) (.cells #[.int .i64 0, .int .i64 0, .int .i64 0, .int .i64 0, .int .i64 0, .int .i64 0, .int .i64 0, .int .i64 0, .int .i64 0, .int .i64 0, .int .i64 0, .int .i64 0, .int .i64 0, .int .i64 0, .int .i64 0, .int .i64 0, .int .i64 0] 42)))
  have HA := Lib.hid (blk_new2L w (.cells #[.int .i64 0, .int .i64 0, .int .i64 0, .int .i64 0, .int .i64 0, .int .i64 0, .int .i64 0, .int .i64 0, .int .i64 0, .int .i64 0, .int .i64 0, .int .i64 0, .int .i64 0, .int .i64 0, .int .i64 0, .int .i64 0, .int .i64 0] 42) [.int .i64 0, .int .i64 0, .int .i64 0, .int .i64 0, .int .i64 0, .int .i64 0, .int .i64 0, .int .i64 0, .int .i64 0, .int .i64 0, .int .i64 0, .int .i64 0, .int .i64 0, .int .i64 0, .int .i64 0, .int .i64 0, .int .i64 0] 42)
  generalize (w.alloc (.cells #[.int .i64 0, .int .i64 0, .int .i64 0, .int .i64 0, .int .i64 0, .int .i64 0, .int .i64 0, .int .i64 0, .int .i64 0, .int .i64 0, .int .i64 0, .int .i64 0, .int .i64 0, .int .i64 0, .int .i64 0, .int .i64 0, .int .i64 0] 42)).alloc (.cells #[.int .i64 0, .int .i64 0, .int .i64 0, .int .i64 0, .int .i64 0, .int .i64 0, .int .i64 0, .int .i64 0, .int .i64 0, .int .i64 0, .int .i64 0, .int .i64 0, .int .i64 0, .int .i64 0, .int .i64 0, .int .i64 0, .int .i64 0] 42) = w0 at *
  rw [← cntL_nil] at HA
  go_wp2
  go_loopw [10] (fun iv wr => ∃ k : Nat, k ≤ L.length ∧ iv = .int .i64 k ∧ Hid (Blk wr (w.heap.size + 1) (cntL (evsOf (L.take k))) 42) ∧ Hid (Blk wr w.heap.size [.int .i64 0, .int .i64 0, .int .i64 0, .int .i64 0, .int .i64 0, .int .i64 0, .int .i64 0, .int .i64 0, .int .i64 0, .int .i64 0, .int .i64 0, .int .i64 0, .int .i64 0, .int .i64 0, .int .i64 0, .int .i64 0, .int .i64 0] 42) ∧ Hid (Below w.heap.size w wr)) (fun iv _ => L.length - (intOf iv).toNat)
  case atStart => exact ⟨0, Nat.zero_le _, rfl, HA, HZ, HB0⟩
  case round =>
    clear HA HZ HB0
    obtain ⟨k, hk, rfl, HA, HZ, HB⟩ := hrel
    by_cases hlt : k < L.length
    · obtain ⟨x, hx⟩ : ∃ x, L[k]? = some x := ⟨L[k], List.getElem?_eq_getElem hlt⟩
      obtain ⟨bc, oc, ec, _, hcc⟩ := (HR.out.later HB.out).elem StepV.cells_len (by omega) hx
      subst ec
      have c0 := keep (hcc 0 _ rfl)
      have c1 := keep (hcc 1 _ rfl)
      have c2 := keep (hcc 2 _ rfl)
      have c3 := keep (hcc 3 _ rfl)
      have c4 := keep (hcc 4 _ rfl)
      have c5 := keep (hcc 5 _ rfl)
      have c6 := keep (hcc 6 _ rfl)
      rw [Nat.add_zero] at c0
      have hd : decide ((k : Int) < (L.length : Int)) = true := decide_eq_true (by omega)
      have HX := Lib.hid hx
      obtain ⟨⟨_, _, hen, hye⟩, hyr⟩ := HG.out x (List.mem_of_getElem? hx)
      have HY := Lib.hid hye
      have HYR := Lib.hid hyr
      have HEN := Lib.hid hen
      clear hx hcc hye
      generalize hea : x.ea = ea at *
      clear hea
      have HBa := Lib.hid (belStep HB.out (belAlloc (Below.refl wr.heap.size wr) (.cells #[.int .i64 x.err, .slice ea x.en x.ec, .int .i64 x.round, .slice x.pa x.pn x.pc, .bool x.o0, .bool x.o1, .bool x.o2] 49)))
      have HAa := Lib.hid (HA.out.later (belAlloc (Below.refl wr.heap.size wr) (.cells #[.int .i64 x.err, .slice ea x.en x.ec, .int .i64 x.round, .slice x.pa x.pn x.pc, .bool x.o0, .bool x.o1, .bool x.o2] 49)))
      have HZa := Lib.hid (HZ.out.later (belAlloc (Below.refl wr.heap.size wr) (.cells #[.int .i64 x.err, .slice ea x.en x.ec, .int .i64 x.round, .slice x.pa x.pn x.pc, .bool x.o0, .bool x.o1, .bool x.o2] 49)))
      have hbd_e : x.en ≤ x.ec ∧ x.ec ≤ 9223372036854775807 := by obtain ⟨_, h1, h2, _⟩ := hyr; unfold maxLen at h2; exact ⟨h1, h2⟩
      obtain ⟨hbd1_e, hbd2_e⟩ := hbd_e
      clear hyr
      have hbel : Below wr.heap.size wr wr := Below.refl _ _
      go_wp2
      clear hbel c0 c1 c2 c3 c4 c5 c6
      generalize wr.alloc (.cells #[.int .i64 x.err, .slice ea x.en x.ec, .int .i64 x.round, .slice x.pa x.pn x.pc, .bool x.o0, .bool x.o1, .bool x.o2] 49) = wa at *
      go_loopw [17] (fun iv wq => ∃ j : Nat, j ≤ x.en ∧ iv = .int .i64 j ∧ Hid (Blk wq (w.heap.size + 1) (cntL (evsOf (L.take k) ++ (evsS x).take j)) 42) ∧ Hid (Blk wq w.heap.size [.int .i64 0, .int .i64 0, .int .i64 0, .int .i64 0, .int .i64 0, .int .i64 0, .int .i64 0, .int .i64 0, .int .i64 0, .int .i64 0, .int .i64 0, .int .i64 0, .int .i64 0, .int .i64 0, .int .i64 0, .int .i64 0, .int .i64 0] 42) ∧ Hid (Below w.heap.size w wq)) (fun iv _ => x.en - (intOf iv).toNat)
      case atStart => exact ⟨0, Nat.zero_le _, rfl, by rw [List.take_zero, List.append_nil]; exact HAa, HZa, HBa⟩
      case round =>
        clear HAa HZa HBa HA HZ HB
        obtain ⟨j, hj, rfl, HA, HZ, HB⟩ := hrel
        by_cases hjt : j < x.en
        · obtain ⟨y, hy⟩ : ∃ y, x.E[j]? = some y := ⟨_, List.getElem?_eq_getElem (show j < x.E.length by rw [HEN.out]; exact hjt)⟩
          obtain ⟨bd, od, ed, _, hcd⟩ := (HYR.out.later HB.out).elem EvV.cells_len (by omega) hy
          subst ed
          have d0 := keep (hcd 0 _ rfl)
          have d1 := keep (hcd 1 _ rfl)
          have d2 := keep (hcd 2 _ rfl)
          have d3 := keep (hcd 3 _ rfl)
          rw [Nat.add_zero] at d0
          have hd : decide ((j : Int) < (x.en : Int)) = true := decide_eq_true (by omega)
          have HEV := Lib.hid (evs_in hy)
          have HLI := Lib.hid (evs_lenI HX.out (j + 1))
          rw [HEV.out] at HLI
          clear hy hcd
          obtain ⟨N, hN⟩ : ∃ N, evsOf (L.take k) ++ (evsS x).take j = N := ⟨_, rfl⟩
          have HN := Lib.hid (show evsOf (L.take k) ++ (evsS x).take (j + 1) = N ++ [(x.round, y)] from by rw [HEV.out, ← List.append_assoc, hN])
          rw [← List.append_assoc, hN] at HLI
          rw [hN] at HA
          clear hN HEV
          have HBb := Lib.hid (belStep HB.out (belAlloc (Below.refl wr.heap.size wr) (.cells #[.int .i64 y.kind, .string y.id, .int .i64 y.sig, .int .i64 y.n] 23)))
          have HAb := Lib.hid (HA.out.later (belAlloc (Below.refl wr.heap.size wr) (.cells #[.int .i64 y.kind, .string y.id, .int .i64 y.sig, .int .i64 y.n] 23)))
          have HZb := Lib.hid (HZ.out.later (belAlloc (Below.refl wr.heap.size wr) (.cells #[.int .i64 y.kind, .string y.id, .int .i64 y.sig, .int .i64 y.n] 23)))
          have hbel : Below wr.heap.size wr wr := Below.refl _ _
          go_upto_region 8 with fail
          clear hbel d0 d1 d2 d3 HA HZ HB
          have y0 : (wr.alloc (.cells #[.int .i64 y.kind, .string y.id, .int .i64 y.sig, .int .i64 y.n] 23)).cell? ⟨wr.heap.size, 0, none⟩ = some (.int .i64 y.kind) := by simp
          generalize wr.alloc (.cells #[.int .i64 y.kind, .string y.id, .int .i64 y.sig, .int .i64 y.n] 23) = wb at *
          by_cases hkn : 0 < y.kind ∧ y.kind < 17
          · have CK := Lib.hid (fun u => lg_known y.kind u)
            rw [decide_eq_true hkn] at CK
            have HH := Lib.hid (cntL_hit N (x.round, y) hkn)
            have hcl := HAb.out.cell (cntL_at N (k := y.kind.toNat) (by omega))
            rw [if_neg (show ¬ y.kind.toNat = 0 by omega), show ((y.kind.toNat : Nat) : Int) = y.kind by omega] at hcl
            have hfr := HAb.out.frozen
            have hcn := cntK_le N y.kind
            have hNl : N.length ≤ 1000000 := by have h1 := HLI.out; have h2 := HT.out; rw [List.length_append] at h1; simp at h1; omega
            obtain ⟨hk1, hk2⟩ := hkn
            generalize hcz : cntK N y.kind = cz at *
            go_wp2_with (go_at_call 34; (with_reducible refine (CK.out _).mono ?_); rintro e' w' ⟨rfl, rfl⟩)
            have hA9 := HAb.out.set y.kind.toNat (.int .i64 ((cz : Int) + 1))
            rw [show (cntL N).set y.kind.toNat (.int .i64 ((cz : Int) + 1)) = cntL (N ++ [(x.round, y)]) from HH.out, ← HN.out] at hA9
            have hZ9 := zset (j := y.kind.toNat) HZb.out (show w.heap.size ≠ w.heap.size + 1 by omega) (.int .i64 ((cz : Int) + 1))
            have hB9 := belLow6 HBb.out ⟨w.heap.size + 1, y.kind.toNat, none⟩ (.int .i64 ((cz : Int) + 1)) (show w.heap.size ≤ w.heap.size + 1 by omega)
            go_roundw
            case rel => exact ⟨j + 1, by omega, by push_cast; rfl, Lib.hid hA9, Lib.hid hZ9, Lib.hid hB9⟩
            case measure => simp [intOf] <;> omega
          · have CK := Lib.hid (fun u => lg_known y.kind u)
            rw [decide_eq_false hkn] at CK
            have HH := Lib.hid (cntL_miss N (x.round, y) hkn)
            clear hkn
            go_wp2_with (go_at_call 34; (with_reducible refine (CK.out _).mono ?_); rintro e' w' ⟨rfl, rfl⟩)
            go_roundw
            case rel => exact ⟨j + 1, by omega, by push_cast; rfl, by rw [HN.out, HH.out]; exact HAb, HZb, HBb⟩
            case measure => simp [intOf] <;> omega
        · obtain rfl : j = x.en := by omega
          have hd : decide ((x.en : Int) < (x.en : Int)) = false := decide_eq_false (by omega)
          rw [List.take_of_length_le (l := evsS x) (by unfold evsS; rw [List.length_map, HEN.out]; exact Nat.le_refl _), ← evs_next HX.out] at HA
          go_wp2
          go_roundw
          case rel => exact ⟨k + 1, by omega, by push_cast; rfl, HA, HZ, HB⟩
          case measure => simp [intOf] <;> omega
    · obtain rfl : k = L.length := by omega
      have hd : decide ((L.length : Int) < (L.length : Int)) = false := decide_eq_false (by omega)
      rw [List.take_length] at HA
      obtain ⟨n, hn⟩ := cntL_17 (evsOf L)
      rw [hn] at HA
      have HN := Lib.hid hn
      clear hn
      have q0 := HA.out.cell (j := 0) rfl
      have q1 := HA.out.cell (j := 1) rfl
      have q2 := HA.out.cell (j := 2) rfl
      have q3 := HA.out.cell (j := 3) rfl
      have q4 := HA.out.cell (j := 4) rfl
      have q5 := HA.out.cell (j := 5) rfl
      have q6 := HA.out.cell (j := 6) rfl
      have q7 := HA.out.cell (j := 7) rfl
      have q8 := HA.out.cell (j := 8) rfl
      have q9 := HA.out.cell (j := 9) rfl
      have q10 := HA.out.cell (j := 10) rfl
      have q11 := HA.out.cell (j := 11) rfl
      have q12 := HA.out.cell (j := 12) rfl
      have q13 := HA.out.cell (j := 13) rfl
      have q14 := HA.out.cell (j := 14) rfl
      have q15 := HA.out.cell (j := 15) rfl
      have q16 := HA.out.cell (j := 16) rfl
      have qf := HA.out.frozen
      have z0 := HZ.out.cell (j := 0) rfl
      have z1 := HZ.out.cell (j := 1) rfl
      have z2 := HZ.out.cell (j := 2) rfl
      have z3 := HZ.out.cell (j := 3) rfl
      have z4 := HZ.out.cell (j := 4) rfl
      have z5 := HZ.out.cell (j := 5) rfl
      have z6 := HZ.out.cell (j := 6) rfl
      have z7 := HZ.out.cell (j := 7) rfl
      have z8 := HZ.out.cell (j := 8) rfl
      have z9 := HZ.out.cell (j := 9) rfl
      have z10 := HZ.out.cell (j := 10) rfl
      have z11 := HZ.out.cell (j := 11) rfl
      have z12 := HZ.out.cell (j := 12) rfl
      have z13 := HZ.out.cell (j := 13) rfl
      have z14 := HZ.out.cell (j := 14) rfl
      have z15 := HZ.out.cell (j := 15) rfl
      have z16 := HZ.out.cell (j := 16) rfl
      have zf := HZ.out.frozen
      go_wp2
      rw [HN.out]
      exact bodyPost_ret (count_fin (Blk.set ((Blk.set ((Blk.set ((Blk.set ((Blk.set ((Blk.set ((Blk.set ((Blk.set ((Blk.set ((Blk.set ((Blk.set ((Blk.set ((Blk.set ((Blk.set ((Blk.set ((Blk.set ((Blk.set (HZ.out) 0 (.int .i64 (n 0)))) 1 (.int .i64 (n 1)))) 2 (.int .i64 (n 2)))) 3 (.int .i64 (n 3)))) 4 (.int .i64 (n 4)))) 5 (.int .i64 (n 5)))) 6 (.int .i64 (n 6)))) 7 (.int .i64 (n 7)))) 8 (.int .i64 (n 8)))) 9 (.int .i64 (n 9)))) 10 (.int .i64 (n 10)))) 11 (.int .i64 (n 11)))) 12 (.int .i64 (n 12)))) 13 (.int .i64 (n 13)))) 14 (.int .i64 (n 14)))) 15 (.int .i64 (n 15)))) 16 (.int .i64 (n 16))) _ rfl) rfl ⟨rfl, (belLow6 ((belLow6 ((belLow6 ((belLow6 ((belLow6 ((belLow6 ((belLow6 ((belLow6 ((belLow6 ((belLow6 ((belLow6 ((belLow6 ((belLow6 ((belLow6 ((belLow6 ((belLow6 ((belLow6 (HB.out) ⟨w.heap.size, 0, none⟩ (.int .i64 (n 0)) (Nat.le_refl _))) ⟨w.heap.size, 1, none⟩ (.int .i64 (n 1)) (Nat.le_refl _))) ⟨w.heap.size, 2, none⟩ (.int .i64 (n 2)) (Nat.le_refl _))) ⟨w.heap.size, 3, none⟩ (.int .i64 (n 3)) (Nat.le_refl _))) ⟨w.heap.size, 4, none⟩ (.int .i64 (n 4)) (Nat.le_refl _))) ⟨w.heap.size, 5, none⟩ (.int .i64 (n 5)) (Nat.le_refl _))) ⟨w.heap.size, 6, none⟩ (.int .i64 (n 6)) (Nat.le_refl _))) ⟨w.heap.size, 7, none⟩ (.int .i64 (n 7)) (Nat.le_refl _))) ⟨w.heap.size, 8, none⟩ (.int .i64 (n 8)) (Nat.le_refl _))) ⟨w.heap.size, 9, none⟩ (.int .i64 (n 9)) (Nat.le_refl _))) ⟨w.heap.size, 10, none⟩ (.int .i64 (n 10)) (Nat.le_refl _))) ⟨w.heap.size, 11, none⟩ (.int .i64 (n 11)) (Nat.le_refl _))) ⟨w.heap.size, 12, none⟩ (.int .i64 (n 12)) (Nat.le_refl _))) ⟨w.heap.size, 13, none⟩ (.int .i64 (n 13)) (Nat.le_refl _))) ⟨w.heap.size, 14, none⟩ (.int .i64 (n 14)) (Nat.le_refl _))) ⟨w.heap.size, 15, none⟩ (.int .i64 (n 15)) (Nat.le_refl _))) ⟨w.heap.size, 16, none⟩ (.int .i64 (n 16)) (Nat.le_refl _))⟩
end Go.Proofs.YtekakalhknjdaaaDoor
