
/- slices.Clone, pod.Cut: contracts. -/
import Derived.Test.YtpmkhimmlpnbpaaPodCut
namespace Go.Proofs.Ytpmkhimmlpnbpaa
open Go.RowKit
set_option linter.unusedVariables false
set_option linter.unusedSimpArgs false

set_option maxHeartbeats 1000000 in
theorem slices_Clone (a : Option Addr) (len cap : Nat) (l : List Int) (w : World) (hl : Ints .u8 w a len cap l) (hlen : len ≤ 1000000) :
    Calls Try.prog 60 #[.slice a len cap] w fun e w' => ∃ v, e = .returned v ∧ OwnI w' w.heap.size 5 .u8 v l ∧ Below w.heap.size w w' := by
  have hb := hl.bounds
  cases a with
  | none =>
    obtain rfl : len = 0 := (hl.1.2.2.2.1 rfl).1
    obtain rfl : l = [] := List.eq_nil_of_length_eq_zero hb.1
    have hnil := Lib.run_eql_slice_nil w 28 5 none 0 cap 0 0 Try.underlying28
    go_enter Try.func60, Try.ntmps60
    go_wp2
    go_ret
    exact ⟨_, rfl, OwnI.nil _ _ _ _, Below.refl _ _⟩
  | some ad =>
    have HL := Lib.hid (hl.later (belAlloc (Below.refl _ _) (.cells #[] 5)))
    have HO := Lib.hid (own_new w w.heap.size 5 .u8 (Nat.le_refl _))
    clear hl
    have hnil := Lib.run_eql_slice_nil w 28 5 (some ad) len cap 0 0 Try.underlying28
    go_enter Try.func60, Try.ntmps60
    go_wp2_with (at_builtin; refine wpList_app_ints rfl _ _ 28 rfl w.heap.size 5 .u8 1 Try.underlying28 info_u8 _ _ rfl HO.out _ len cap l rfl HL.out ?c1 ?c2 ?c3 ?_)
    case c1 => simp only [maxLen, List.length_nil]; omega
    case c2 => simp only [List.length_nil]; omega
    case c3 => simp
    intro v' w2 ho' hb' hg'
    go_wp2
    go_ret
    exact ⟨_, rfl, by simpa using ho', (belAlloc (Below.refl _ _) _ : Below w.heap.size w (w.alloc _)).trans hb'⟩

theorem pod_cut_ok (a : Option Addr) (len cap : Nat) (l : List Int) (w : World) (hl : Ints .u8 w a len cap l) (hlen : len ≤ 1000000) (p : PodV) (r : List Int) (h : cutF l = some (p, r)) :
    Calls Try.prog 59 #[.slice a len cap] w fun e w' => ∃ a2 n c, e = .returned (.tuple #[p.v, .slice a2 n c, .bool true]) ∧ Ints .u8 w' a2 n c r ∧ n ≤ 1000000 ∧ Below w.heap.size w w' := by
  refine (pod_cut a len cap l w hl hlen).mono ?_
  rintro e w' ⟨⟨p', r', h', a2, n, c, rfl, hi, hn⟩ | ⟨h', _⟩, hb⟩
  · rw [h] at h'
    simp at h'
    obtain ⟨rfl, rfl⟩ := h'
    exact ⟨a2, n, c, rfl, hi, hn, hb⟩
  · rw [h] at h'; cases h'
theorem pod_cut_no (a : Option Addr) (len cap : Nat) (l : List Int) (w : World) (hl : Ints .u8 w a len cap l) (hlen : len ≤ 1000000) (h : cutF l = none) :
    Calls Try.prog 59 #[.slice a len cap] w fun e w' => e = .returned (.tuple #[zeroP.v, .slice none 0 0, .bool false]) ∧ Below w.heap.size w w' := by
  refine (pod_cut a len cap l w hl hlen).mono ?_
  rintro e w' ⟨⟨p', r', h', _⟩ | ⟨_, rfl⟩, hb⟩
  · rw [h] at h'; cases h'
  · exact ⟨rfl, hb⟩
set_option maxRecDepth 100000 in
set_option maxHeartbeats 1000000 in
theorem Cut_ret (w W : World) (tm : Array Value) (q : Value) (n : Int) (p : PodV) (R : Ending → World → Prop) (h2 : tm.getD 2 undef = .pointer (some ⟨w.heap.size, 0, none⟩)) (h3 : tm.getD 3 undef = q) (h4 : tm.getD 4 undef = .int .i64 n) (hb : Blk W w.heap.size p.cells 44) (hR : R (.returned (.tuple #[p.v, q, .int .i64 n])) W) :
    bodyPost Try.prog Try.f53 R Exit.ret { tmps := tm, defers := [] } W := by
  have z0 := hb.cell (j := 0) rfl
  have z1 := hb.cell (j := 1) rfl
  have z2 := hb.cell (j := 2) rfl
  have z3 := hb.cell (j := 3) rfl
  have z4 := hb.cell (j := 4) rfl
  have z5 := hb.cell (j := 5) rfl
  have z6 := hb.cell (j := 6) rfl
  have z7 := hb.cell (j := 7) rfl
  have z8 := hb.cell (j := 8) rfl
  have z9 := hb.cell (j := 9) rfl
  have z10 := hb.cell (j := 10) rfl
  refine bodyPost_ret (v := .tuple #[p.v, q, .int .i64 n]) ?_ rfl hR
  simp only [Array.getD_eq_getD_getElem?] at h2 h3 h4
  simp [results, Try.results53, go_sem, PodV.v, h2, h3, h4, z0, z1, z2, z3, z4, z5, z6, z7, z8, z9, z10]

theorem cells11_of {w : World} {P : Nat} {p : PodV} {T : TypeId} (h : Blk w P p.cells T) : w.cell? ⟨P, 0, none⟩ = some (.string p.id) ∧ w.cell? ⟨P, 1, none⟩ = some (.int .i64 p.prio) ∧ w.cell? ⟨P, 2, none⟩ = some (.bool p.crit) ∧ w.cell? ⟨P, 3, none⟩ = some (.int .i64 p.r0) ∧ w.cell? ⟨P, 4, none⟩ = some (.int .i64 p.r1) ∧ w.cell? ⟨P, 5, none⟩ = some (.int .i64 p.r2) ∧ w.cell? ⟨P, 6, none⟩ = some (.int .i64 p.l0) ∧ w.cell? ⟨P, 7, none⟩ = some (.int .i64 p.l1) ∧ w.cell? ⟨P, 8, none⟩ = some (.int .i64 p.l2) ∧ w.cell? ⟨P, 9, none⟩ = some (.string p.img) ∧ w.cell? ⟨P, 10, none⟩ = some (.int .i64 p.size) := ⟨h.cell (j := 0) rfl, h.cell (j := 1) rfl, h.cell (j := 2) rfl, h.cell (j := 3) rfl, h.cell (j := 4) rfl, h.cell (j := 5) rfl, h.cell (j := 6) rfl, h.cell (j := 7) rfl, h.cell (j := 8) rfl, h.cell (j := 9) rfl, h.cell (j := 10) rfl⟩
theorem nameF_len {l x r : List Int} (h : nameF l = some (x, r)) : x.length ≤ l.length ∧ r.length ≤ l.length := by
  cases l with
  | nil => cases h
  | cons c q =>
    simp only [nameF] at h
    split at h
    · cases h
    · simp at h
      rw [← h.1, ← h.2]
      simp; omega
theorem size_strOf (l : List Int) : (strOfNums l).size = l.length := by simp [strOfNums, ByteArray.size]
theorem cutF_ok {l : List Int} {p : PodV} {r : List Int} (hl : l.length ≤ 1000000) (h : cutF l = some (p, r)) : p.ok := by
  unfold cutF at h
  cases h1 : nameF l with
  | none => rw [h1] at h; cases h
  | some q =>
    obtain ⟨x, r1⟩ := q
    rw [h1] at h
    simp only at h
    cases h2 : nameF r1 with
    | none => rw [h2] at h; cases h
    | some q =>
      obtain ⟨y, r2⟩ := q
      rw [h2] at h
      simp only at h
      cases h3 : numsF 8 r2 with
      | none => rw [h3] at h; cases h
      | some q =>
        obtain ⟨ns, r3⟩ := q
        rw [h3] at h
        simp only at h
        have hb := numsF_bd h3
        have hlen := numsF_len h3
        have l1 := nameF_len h1
        have l2 := nameF_len h2
        have key : ∀ i, i < 8 → 0 ≤ el ns i ∧ el ns i < 9223372036854775808 := fun i hi => hb _ (el_mem (by omega))
        have k0 := key 0 (by omega)
        have k1 := key 1 (by omega)
        have k2 := key 2 (by omega)
        have k3 := key 3 (by omega)
        have k4 := key 4 (by omega)
        have k5 := key 5 (by omega)
        have k6 := key 6 (by omega)
        have k7 := key 7 (by omega)
        cases r3 with
        | nil => cases h
        | cons c r4 =>
          simp only at h
          split at h
          · simp at h
            rw [← h.1]
            unfold PodV.ok mkPod InI maxLen
            simp only [size_strOf]
            refine ⟨by omega, by omega, ?_, ?_, ?_, ?_, ?_, ?_, ?_, ?_⟩ <;> omega
          · cases h

set_option maxRecDepth 100000 in
set_option maxHeartbeats 4000000 in
theorem pod_Cut_no (a : Option Addr) (len cap : Nat) (l : List Int) (w : World) (hl : Ints .u8 w a len cap l) (hlen : len ≤ 1000000) (h : cutF l = none) :
    Calls Try.prog 53 #[.slice a len cap] w fun e w' => e = .returned (.tuple #[zeroP.v, .slice none 0 0, .int .i64 3]) ∧ Below w.heap.size w w' := by
  have hb1 : Below w.heap.size w (w.alloc (.cells #[.string ⟨#[]⟩, .int .i64 0, .bool false, .int .i64 0, .int .i64 0, .int .i64 0, .int .i64 0, .int .i64 0, .int .i64 0, .string ⟨#[]⟩, .int .i64 0] 44)) := belAlloc (Below.refl _ _) _
  have hR1 := Blk.new w (podC ⟨#[]⟩ ⟨#[]⟩ []) 44
  have HR1 := Lib.hid (show Blk (w.alloc (.cells #[.string ⟨#[]⟩, .int .i64 0, .bool false, .int .i64 0, .int .i64 0, .int .i64 0, .int .i64 0, .int .i64 0, .int .i64 0, .string ⟨#[]⟩, .int .i64 0] 44)) w.heap.size (podC ⟨#[]⟩ ⟨#[]⟩ []) 44 from hR1)
  have HCN := Lib.hid (pod_cut_no a len cap l _ (hl.later hb1) hlen h)
  have HB1 := Lib.hid hb1
  have hzv : zeroP.v = .agg #[.string ⟨#[]⟩, .int .i64 0, .bool false, .int .i64 0, .int .i64 0, .int .i64 0, .int .i64 0, .int .i64 0, .int .i64 0, .string ⟨#[]⟩, .int .i64 0] := rfl
  rw [hzv] at HCN
  clear hR1 hb1 hl h hzv
  go_enter Try.func53, Try.ntmps53
  go_wp2_with (go_at_call 59; (with_reducible refine HCN.out.mono ?_); rintro e w2 ⟨rfl, hb2⟩; have hR2 := HR1.out.later hb2; have z0 := keep (hR2.cell (j := 0) rfl); have z1 := keep (hR2.cell (j := 1) rfl); have z2 := keep (hR2.cell (j := 2) rfl); have z3 := keep (hR2.cell (j := 3) rfl); have z4 := keep (hR2.cell (j := 4) rfl); have z5 := keep (hR2.cell (j := 5) rfl); have z6 := keep (hR2.cell (j := 6) rfl); have z7 := keep (hR2.cell (j := 7) rfl); have z8 := keep (hR2.cell (j := 8) rfl); have z9 := keep (hR2.cell (j := 9) rfl); have z10 := keep (hR2.cell (j := 10) rfl); have zf := Blk.keepF hR2; have hbel2 := belStep HB1.out hb2; have hbelx : Below w2.heap.size w2 w2 := Below.refl _ _)
  have hR5 := hR2.later (belAlloc hbelx (.cells #[.string ⟨#[]⟩, .int .i64 0, .bool false, .int .i64 0, .int .i64 0, .int .i64 0, .int .i64 0, .int .i64 0, .int .i64 0, .string ⟨#[]⟩, .int .i64 0] 44))
  have hb9 := belAlloc hbel2 (.cells #[.string ⟨#[]⟩, .int .i64 0, .bool false, .int .i64 0, .int .i64 0, .int .i64 0, .int .i64 0, .int .i64 0, .int .i64 0, .string ⟨#[]⟩, .int .i64 0] 44)
  clear z0 z1 z2 z3 z4 z5 z6 z7 z8 z9 z10 zf
  generalize w2.alloc (.cells #[.string ⟨#[]⟩, .int .i64 0, .bool false, .int .i64 0, .int .i64 0, .int .i64 0, .int .i64 0, .int .i64 0, .int .i64 0, .string ⟨#[]⟩, .int .i64 0] 44) = W5 at hR5 hb9 ⊢
  have hb10 := belSet (belSet (belSet (belSet (belSet (belSet (belSet (belSet (belSet (belSet (belSet (hb9) ⟨w.heap.size, 0, none⟩ (.string ⟨#[]⟩) (Nat.le_refl _)) ⟨w.heap.size, 1, none⟩ (.int .i64 0) (Nat.le_refl _)) ⟨w.heap.size, 2, none⟩ (.bool false) (Nat.le_refl _)) ⟨w.heap.size, 3, none⟩ (.int .i64 0) (Nat.le_refl _)) ⟨w.heap.size, 4, none⟩ (.int .i64 0) (Nat.le_refl _)) ⟨w.heap.size, 5, none⟩ (.int .i64 0) (Nat.le_refl _)) ⟨w.heap.size, 6, none⟩ (.int .i64 0) (Nat.le_refl _)) ⟨w.heap.size, 7, none⟩ (.int .i64 0) (Nat.le_refl _)) ⟨w.heap.size, 8, none⟩ (.int .i64 0) (Nat.le_refl _)) ⟨w.heap.size, 9, none⟩ (.string ⟨#[]⟩) (Nat.le_refl _)) ⟨w.heap.size, 10, none⟩ (.int .i64 0) (Nat.le_refl _)
  have hR10 := (((((((((((hR5).set 0 (.string ⟨#[]⟩)).set 1 (.int .i64 0)).set 2 (.bool false)).set 3 (.int .i64 0)).set 4 (.int .i64 0)).set 5 (.int .i64 0)).set 6 (.int .i64 0)).set 7 (.int .i64 0)).set 8 (.int .i64 0)).set 9 (.string ⟨#[]⟩)).set 10 (.int .i64 0)
  generalize (((((((((((W5).setCell ⟨w.heap.size, 0, none⟩ (.string ⟨#[]⟩)).setCell ⟨w.heap.size, 1, none⟩ (.int .i64 0)).setCell ⟨w.heap.size, 2, none⟩ (.bool false)).setCell ⟨w.heap.size, 3, none⟩ (.int .i64 0)).setCell ⟨w.heap.size, 4, none⟩ (.int .i64 0)).setCell ⟨w.heap.size, 5, none⟩ (.int .i64 0)).setCell ⟨w.heap.size, 6, none⟩ (.int .i64 0)).setCell ⟨w.heap.size, 7, none⟩ (.int .i64 0)).setCell ⟨w.heap.size, 8, none⟩ (.int .i64 0)).setCell ⟨w.heap.size, 9, none⟩ (.string ⟨#[]⟩)).setCell ⟨w.heap.size, 10, none⟩ (.int .i64 0) = W10 at hb10 hR10 ⊢
  exact Cut_ret w W10 _ _ 3 zeroP _ rfl rfl rfl hR10 ⟨rfl, hb10⟩

set_option maxRecDepth 100000 in
set_option maxHeartbeats 4000000 in
theorem pod_Cut_bad (a : Option Addr) (len cap : Nat) (l : List Int) (w : World) (hl : Ints .u8 w a len cap l) (hlen : len ≤ 1000000) (p : PodV) (r : List Int) (h : cutF l = some (p, r)) (hr : rightB p = false) :
    Calls Try.prog 53 #[.slice a len cap] w fun e w' => e = .returned (.tuple #[zeroP.v, .slice none 0 0, .int .i64 3]) ∧ Below w.heap.size w w' := by
  have hp := cutF_ok (by have := hl.bounds; omega) h
  have cr := fun v => pod_Right p v hp
  rw [hr] at cr
  have CR := Lib.hid cr
  have hb1 : Below w.heap.size w (w.alloc (.cells #[.string ⟨#[]⟩, .int .i64 0, .bool false, .int .i64 0, .int .i64 0, .int .i64 0, .int .i64 0, .int .i64 0, .int .i64 0, .string ⟨#[]⟩, .int .i64 0] 44)) := belAlloc (Below.refl _ _) _
  have hR1 := Blk.new w (podC ⟨#[]⟩ ⟨#[]⟩ []) 44
  have HR1 := Lib.hid (show Blk (w.alloc (.cells #[.string ⟨#[]⟩, .int .i64 0, .bool false, .int .i64 0, .int .i64 0, .int .i64 0, .int .i64 0, .int .i64 0, .int .i64 0, .string ⟨#[]⟩, .int .i64 0] 44)) w.heap.size (podC ⟨#[]⟩ ⟨#[]⟩ []) 44 from hR1)
  have HCN := Lib.hid (pod_cut_ok a len cap l _ (hl.later hb1) hlen p r h)
  have HB1 := Lib.hid hb1
  have hpv : p.v = .agg #[.string p.id, .int .i64 p.prio, .bool p.crit, .int .i64 p.r0, .int .i64 p.r1, .int .i64 p.r2, .int .i64 p.l0, .int .i64 p.l1, .int .i64 p.l2, .string p.img, .int .i64 p.size] := rfl
  rw [hpv] at HCN
  clear hR1 hb1 hl h hpv cr hr hp
  go_enter Try.func53, Try.ntmps53
  go_upto_region 2 with (go_at_call 59; (with_reducible refine HCN.out.mono ?_); rintro e w2 ⟨a2, n, c, rfl, hi2, hn2, hb2⟩; have hR2 := HR1.out.later hb2; have hbel2 := belStep HB1.out hb2)
  have hP3 := Blk.new w2 p.cells 44
  have hR3 := hR2.later (belAlloc (Below.refl _ _) (.cells p.cells.toArray 44))
  have hb3 := belAlloc hbel2 (.cells p.cells.toArray 44)
  have hlt := hR2.lt
  have hpc : p.cells.toArray = #[.string p.id, .int .i64 p.prio, .bool p.crit, .int .i64 p.r0, .int .i64 p.r1, .int .i64 p.r2, .int .i64 p.l0, .int .i64 p.l1, .int .i64 p.l2, .string p.img, .int .i64 p.size] := rfl
  rw [hpc] at hP3 hR3 hb3
  clear hi2 hR2 hpc
  generalize w2.alloc (.cells #[.string p.id, .int .i64 p.prio, .bool p.crit, .int .i64 p.r0, .int .i64 p.r1, .int .i64 p.r2, .int .i64 p.l0, .int .i64 p.l1, .int .i64 p.l2, .string p.img, .int .i64 p.size] 44) = W3 at *
  generalize w2.heap.size = P at *
  have y0 := keep (hP3.cell (j := 0) rfl)
  have y1 := keep (hP3.cell (j := 1) rfl)
  have y2 := keep (hP3.cell (j := 2) rfl)
  have y3 := keep (hP3.cell (j := 3) rfl)
  have y4 := keep (hP3.cell (j := 4) rfl)
  have y5 := keep (hP3.cell (j := 5) rfl)
  have y6 := keep (hP3.cell (j := 6) rfl)
  have y7 := keep (hP3.cell (j := 7) rfl)
  have y8 := keep (hP3.cell (j := 8) rfl)
  have y9 := keep (hP3.cell (j := 9) rfl)
  have y10 := keep (hP3.cell (j := 10) rfl)
  have z0 := keep (hR3.cell (j := 0) rfl)
  have z1 := keep (hR3.cell (j := 1) rfl)
  have z2 := keep (hR3.cell (j := 2) rfl)
  have z3 := keep (hR3.cell (j := 3) rfl)
  have z4 := keep (hR3.cell (j := 4) rfl)
  have z5 := keep (hR3.cell (j := 5) rfl)
  have z6 := keep (hR3.cell (j := 6) rfl)
  have z7 := keep (hR3.cell (j := 7) rfl)
  have z8 := keep (hR3.cell (j := 8) rfl)
  have z9 := keep (hR3.cell (j := 9) rfl)
  have z10 := keep (hR3.cell (j := 10) rfl)
  have zf := Blk.keepF hR3
  have hbelx : Below W3.heap.size W3 W3 := Below.refl _ _
  go_wp2_with (go_at_call 34; (with_reducible refine (CR.out _).mono ?_); rintro e w4 ⟨rfl, hb4⟩; replace hbelx := belStep hbelx hb4; have hR5 := hR3.later hb4; have hb9 := belStep hb3 hb4; clear hb4)
  clear z0 z1 z2 z3 z4 z5 z6 z7 z8 z9 z10 zf
  have hb10 := belSet (belSet (belSet (belSet (belSet (belSet (belSet (belSet (belSet (belSet (belSet (hb9) ⟨w.heap.size, 0, none⟩ (.string ⟨#[]⟩) (Nat.le_refl _)) ⟨w.heap.size, 1, none⟩ (.int .i64 0) (Nat.le_refl _)) ⟨w.heap.size, 2, none⟩ (.bool false) (Nat.le_refl _)) ⟨w.heap.size, 3, none⟩ (.int .i64 0) (Nat.le_refl _)) ⟨w.heap.size, 4, none⟩ (.int .i64 0) (Nat.le_refl _)) ⟨w.heap.size, 5, none⟩ (.int .i64 0) (Nat.le_refl _)) ⟨w.heap.size, 6, none⟩ (.int .i64 0) (Nat.le_refl _)) ⟨w.heap.size, 7, none⟩ (.int .i64 0) (Nat.le_refl _)) ⟨w.heap.size, 8, none⟩ (.int .i64 0) (Nat.le_refl _)) ⟨w.heap.size, 9, none⟩ (.string ⟨#[]⟩) (Nat.le_refl _)) ⟨w.heap.size, 10, none⟩ (.int .i64 0) (Nat.le_refl _)
  have hR10 := (((((((((((hR5).set 0 (.string ⟨#[]⟩)).set 1 (.int .i64 0)).set 2 (.bool false)).set 3 (.int .i64 0)).set 4 (.int .i64 0)).set 5 (.int .i64 0)).set 6 (.int .i64 0)).set 7 (.int .i64 0)).set 8 (.int .i64 0)).set 9 (.string ⟨#[]⟩)).set 10 (.int .i64 0)
  generalize (((((((((((w4).setCell ⟨w.heap.size, 0, none⟩ (.string ⟨#[]⟩)).setCell ⟨w.heap.size, 1, none⟩ (.int .i64 0)).setCell ⟨w.heap.size, 2, none⟩ (.bool false)).setCell ⟨w.heap.size, 3, none⟩ (.int .i64 0)).setCell ⟨w.heap.size, 4, none⟩ (.int .i64 0)).setCell ⟨w.heap.size, 5, none⟩ (.int .i64 0)).setCell ⟨w.heap.size, 6, none⟩ (.int .i64 0)).setCell ⟨w.heap.size, 7, none⟩ (.int .i64 0)).setCell ⟨w.heap.size, 8, none⟩ (.int .i64 0)).setCell ⟨w.heap.size, 9, none⟩ (.string ⟨#[]⟩)).setCell ⟨w.heap.size, 10, none⟩ (.int .i64 0) = W10 at hb10 hR10 ⊢
  exact Cut_ret w W10 _ _ 3 zeroP _ rfl rfl rfl hR10 ⟨rfl, hb10⟩

set_option maxRecDepth 100000 in
set_option maxHeartbeats 4000000 in
theorem pod_Cut (a : Option Addr) (len cap : Nat) (l : List Int) (w : World) (hl : Ints .u8 w a len cap l) (hlen : len ≤ 1000000) (p : PodV) (r : List Int) (h : cutF l = some (p, r)) (hr : rightB p = true) :
    Calls Try.prog 53 #[.slice a len cap] w fun e w' => ∃ v, e = .returned (.tuple #[p.v, v, .int .i64 0]) ∧ OwnI w' w.heap.size 5 .u8 v r ∧ Below w.heap.size w w' := by
  have hp := cutF_ok (by have := hl.bounds; omega) h
  have cr := fun v => pod_Right p v hp
  rw [hr] at cr
  have CR := Lib.hid cr
  have hb1 : Below w.heap.size w (w.alloc (.cells #[.string ⟨#[]⟩, .int .i64 0, .bool false, .int .i64 0, .int .i64 0, .int .i64 0, .int .i64 0, .int .i64 0, .int .i64 0, .string ⟨#[]⟩, .int .i64 0] 44)) := belAlloc (Below.refl _ _) _
  have hR1 := Blk.new w (podC ⟨#[]⟩ ⟨#[]⟩ []) 44
  have HR1 := Lib.hid (show Blk (w.alloc (.cells #[.string ⟨#[]⟩, .int .i64 0, .bool false, .int .i64 0, .int .i64 0, .int .i64 0, .int .i64 0, .int .i64 0, .int .i64 0, .string ⟨#[]⟩, .int .i64 0] 44)) w.heap.size (podC ⟨#[]⟩ ⟨#[]⟩ []) 44 from hR1)
  have HCN := Lib.hid (pod_cut_ok a len cap l _ (hl.later hb1) hlen p r h)
  have HB1 := Lib.hid hb1
  have hpv : p.v = .agg #[.string p.id, .int .i64 p.prio, .bool p.crit, .int .i64 p.r0, .int .i64 p.r1, .int .i64 p.r2, .int .i64 p.l0, .int .i64 p.l1, .int .i64 p.l2, .string p.img, .int .i64 p.size] := rfl
  rw [hpv] at HCN
  clear hR1 hb1 hl h hpv cr hr hp
  go_enter Try.func53, Try.ntmps53
  go_upto_region 2 with (go_at_call 59; (with_reducible refine HCN.out.mono ?_); rintro e w2 ⟨a2, n, c, rfl, hi2, hn2, hb2⟩; have hR2 := HR1.out.later hb2; have hbel2 := belStep HB1.out hb2)
  have hP3 := Blk.new w2 p.cells 44
  have hR3 := hR2.later (belAlloc (Below.refl _ _) (.cells p.cells.toArray 44))
  have hb3 := belAlloc hbel2 (.cells p.cells.toArray 44)
  have hi3 := hi2.later (belAlloc (Below.refl _ _) (.cells p.cells.toArray 44))
  have hlt := hR2.lt
  have hpc : p.cells.toArray = #[.string p.id, .int .i64 p.prio, .bool p.crit, .int .i64 p.r0, .int .i64 p.r1, .int .i64 p.r2, .int .i64 p.l0, .int .i64 p.l1, .int .i64 p.l2, .string p.img, .int .i64 p.size] := rfl
  rw [hpc] at hP3 hR3 hb3 hi3
  clear hi2 hR2 hpc
  generalize w2.alloc (.cells #[.string p.id, .int .i64 p.prio, .bool p.crit, .int .i64 p.r0, .int .i64 p.r1, .int .i64 p.r2, .int .i64 p.l0, .int .i64 p.l1, .int .i64 p.l2, .string p.img, .int .i64 p.size] 44) = W3 at *
  generalize w2.heap.size = P at *
  have HI3 := Lib.hid hi3
  have y0 := keep (hP3.cell (j := 0) rfl)
  have y1 := keep (hP3.cell (j := 1) rfl)
  have y2 := keep (hP3.cell (j := 2) rfl)
  have y3 := keep (hP3.cell (j := 3) rfl)
  have y4 := keep (hP3.cell (j := 4) rfl)
  have y5 := keep (hP3.cell (j := 5) rfl)
  have y6 := keep (hP3.cell (j := 6) rfl)
  have y7 := keep (hP3.cell (j := 7) rfl)
  have y8 := keep (hP3.cell (j := 8) rfl)
  have y9 := keep (hP3.cell (j := 9) rfl)
  have y10 := keep (hP3.cell (j := 10) rfl)
  have z0 := keep (hR3.cell (j := 0) rfl)
  have z1 := keep (hR3.cell (j := 1) rfl)
  have z2 := keep (hR3.cell (j := 2) rfl)
  have z3 := keep (hR3.cell (j := 3) rfl)
  have z4 := keep (hR3.cell (j := 4) rfl)
  have z5 := keep (hR3.cell (j := 5) rfl)
  have z6 := keep (hR3.cell (j := 6) rfl)
  have z7 := keep (hR3.cell (j := 7) rfl)
  have z8 := keep (hR3.cell (j := 8) rfl)
  have z9 := keep (hR3.cell (j := 9) rfl)
  have z10 := keep (hR3.cell (j := 10) rfl)
  have zf := Blk.keepF hR3
  have hbelx : Below W3.heap.size W3 W3 := Below.refl _ _
  clear hi3
  have hsP : w.heap.size < P := by assumption
  go_upto_region 4 with (go_at_call 34; (with_reducible refine (CR.out _).mono ?_); rintro e w4 ⟨rfl, hb4⟩; replace hbelx := belStep hbelx hb4; have HP4 := Lib.hid (hP3.later hb4); have HR4 := Lib.hid (hR3.later hb4); have HI4 := Lib.hid (HI3.out.later hb4); have hb9 := belStep hb3 hb4; clear hb4)
  have CK := Lib.hid (fun u (hu : Below w4.heap.size w4 u) => slices_Clone a2 n c r u (HI4.out.later hu) hn2)
  clear hP3 hR3
  have hbel4 : Below w4.heap.size w4 w4 := Below.refl _ _
  refine wp_region_held_drew (S := (fun w' => w'.cell? ⟨P, 0, none⟩ = some (.string p.id) ∧ w'.cell? ⟨P, 1, none⟩ = some (.int .i64 p.prio) ∧ w'.cell? ⟨P, 2, none⟩ = some (.bool p.crit) ∧ w'.cell? ⟨P, 3, none⟩ = some (.int .i64 p.r0) ∧ w'.cell? ⟨P, 4, none⟩ = some (.int .i64 p.r1) ∧ w'.cell? ⟨P, 5, none⟩ = some (.int .i64 p.r2) ∧ w'.cell? ⟨P, 6, none⟩ = some (.int .i64 p.l0) ∧ w'.cell? ⟨P, 7, none⟩ = some (.int .i64 p.l1) ∧ w'.cell? ⟨P, 8, none⟩ = some (.int .i64 p.l2) ∧ w'.cell? ⟨P, 9, none⟩ = some (.string p.img) ∧ w'.cell? ⟨P, 10, none⟩ = some (.int .i64 p.size))) (by kernel_rfl) (by (refine cells11_of (T := 44) ?_; (repeat (refine Blk.far ?_ (show w.heap.size ≠ P by omega) _)); exact HP4.out.later (by repeat (first | assumption | exact Below.refl _ _ | refine belDrew ?_ | refine belStep ?_ (by assumption))))) (fun hHeld => ?_)
  refine wpAnyH_take (i := 0) (oi := ?oi_1) (v := ?v_1) ?hi_1 (by kernel_rfl) ?hf_1 ?hr_1 ?hQ_1 (Or.inl ⟨?hw_1, ?hy_1⟩) (by assumption) ?rest_1
  case hi_1 => ((simp only [List.getElem?_toArray, List.getElem?_cons_succ, List.getElem?_cons_zero]); rfl)
  case hf_1 => kernel_rfl
  case hr_1 => kernel_rfl
  case hQ_1 => exact fun _ _ _ h => h
  case hw_1 => rfl
  case hy_1 => ((intro w hSw; (try dsimp only at hSw); go_simp); all_goals (with_reducible rfl))
  try simp only [Act.put, List.setIfInBounds_toArray, List.set_cons_zero, List.set_cons_succ]
  refine wpAnyH_take (i := 1) (oi := ?oi_2) (v := ?v_2) ?hi_2 (by kernel_rfl) ?hf_2 ?hr_2 ?hQ_2 (Or.inl ⟨?hw_2, ?hy_2⟩) (by assumption) ?rest_2
  case hi_2 => ((simp only [List.getElem?_toArray, List.getElem?_cons_succ, List.getElem?_cons_zero]); rfl)
  case hf_2 => kernel_rfl
  case hr_2 => kernel_rfl
  case hQ_2 => exact fun _ _ _ h => h
  case hw_2 => rfl
  case hy_2 => ((intro w hSw; (try dsimp only at hSw); go_simp); all_goals (with_reducible rfl))
  try simp only [Act.put, List.setIfInBounds_toArray, List.set_cons_zero, List.set_cons_succ]
  refine wpAnyH_ready (rs := [2]) (by kernel_rfl) (by simp) ?_
  refine AllReadyH.cons (o := ?o1_3) ?hi_3 (fun K hK => ?rest_3) AllReadyH.nil
  case hi_3 => ((simp only [List.getElem?_toArray, List.getElem?_cons_succ, List.getElem?_cons_zero]); rfl)
  go_simp
  ((go_at_call 60; (with_reducible refine (CK.out _ (belDrew hbel4)).mono ?_); rintro e w6 ⟨v6, rfl, hown6, hb6⟩; have hb46 : Below w4.heap.size w4 w6 := belStep (belDrew hbel4) hb6; replace hbelx := belStep hbelx hb46))
  try go_simp
  refine hK.out _ _ (by (refine cells11_of (T := 44) ?_; (repeat (refine Blk.far ?_ (show w.heap.size ≠ P by omega) _)); exact HP4.out.later (by repeat (first | assumption | exact Below.refl _ _ | refine belDrew ?_ | refine belStep ?_ (by assumption))))) (fun hHeld => ?_)
  clear hK K
  try simp only [Act.put, List.setIfInBounds_toArray, List.set_cons_zero, List.set_cons_succ]
  refine wpAnyH_ready (rs := [3]) (by kernel_rfl) (by simp) ?_
  refine AllReadyH.cons (o := ?o1_4) ?hi_4 (fun K hK => ?rest_4) AllReadyH.nil
  case hi_4 => ((simp only [List.getElem?_toArray, List.getElem?_cons_succ, List.getElem?_cons_zero]); rfl)
  go_simp
  refine hK.out _ _ (by (refine cells11_of (T := 44) ?_; (repeat (refine Blk.far ?_ (show w.heap.size ≠ P by omega) _)); exact HP4.out.later (by repeat (first | assumption | exact Below.refl _ _ | refine belDrew ?_ | refine belStep ?_ (by assumption))))) (fun hHeld => ?_)
  clear hK K
  try simp only [Act.put, List.setIfInBounds_toArray, List.set_cons_zero, List.set_cons_succ]
  refine wpAnyH_ready (rs := [4]) (by kernel_rfl) (by simp) ?_
  refine AllReadyH.cons (o := ?o1_5) ?hi_5 (fun K hK => ?rest_5) AllReadyH.nil
  case hi_5 => ((simp only [List.getElem?_toArray, List.getElem?_cons_succ, List.getElem?_cons_zero]); rfl)
  go_simp
  refine hK.out _ _ (by (refine cells11_of (T := 44) ?_; (repeat (refine Blk.far ?_ (show w.heap.size ≠ P by omega) _)); exact HP4.out.later (by repeat (first | assumption | exact Below.refl _ _ | refine belDrew ?_ | refine belStep ?_ (by assumption))))) (fun hHeld => ?_)
  clear hK K
  try simp only [Act.put, List.setIfInBounds_toArray, List.set_cons_zero, List.set_cons_succ]
  refine wpAnyH_ready (rs := [5]) (by kernel_rfl) (by simp) ?_
  refine AllReadyH.cons (o := ?o1_6) ?hi_6 (fun K hK => ?rest_6) AllReadyH.nil
  case hi_6 => ((simp only [List.getElem?_toArray, List.getElem?_cons_succ, List.getElem?_cons_zero]); rfl)
  go_simp
  refine hK.out _ _ (by (refine cells11_of (T := 44) ?_; (repeat (refine Blk.far ?_ (show w.heap.size ≠ P by omega) _)); exact HP4.out.later (by repeat (first | assumption | exact Below.refl _ _ | refine belDrew ?_ | refine belStep ?_ (by assumption))))) (fun hHeld => ?_)
  clear hK K
  try simp only [Act.put, List.setIfInBounds_toArray, List.set_cons_zero, List.set_cons_succ]
  refine wpAnyH_done (by kernel_rfl) ?_ _
  have HO6 := Lib.hid hown6
  have hR6 := HR4.out.later hb46
  replace hb9 := belStep hb9 hb46
  clear z0 z1 z2 z3 z4 z5 z6 z7 z8 z9 z10 zf
  have hlt4 : w.heap.size < w4.drew.heap.size := HR4.out.lt
  have hO10 := OwnI.setFar (OwnI.setFar (OwnI.setFar (OwnI.setFar (OwnI.setFar (OwnI.setFar (OwnI.setFar (OwnI.setFar (OwnI.setFar (OwnI.setFar (OwnI.setFar (HO6.out) (a := ⟨w.heap.size, 0, none⟩) hlt4 (.string p.id)) (a := ⟨w.heap.size, 1, none⟩) hlt4 (.int .i64 p.prio)) (a := ⟨w.heap.size, 2, none⟩) hlt4 (.bool p.crit)) (a := ⟨w.heap.size, 3, none⟩) hlt4 (.int .i64 p.r0)) (a := ⟨w.heap.size, 4, none⟩) hlt4 (.int .i64 p.r1)) (a := ⟨w.heap.size, 5, none⟩) hlt4 (.int .i64 p.r2)) (a := ⟨w.heap.size, 6, none⟩) hlt4 (.int .i64 p.l0)) (a := ⟨w.heap.size, 7, none⟩) hlt4 (.int .i64 p.l1)) (a := ⟨w.heap.size, 8, none⟩) hlt4 (.int .i64 p.l2)) (a := ⟨w.heap.size, 9, none⟩) hlt4 (.string p.img)) (a := ⟨w.heap.size, 10, none⟩) hlt4 (.int .i64 p.size)
  have hb10 := belSet (belSet (belSet (belSet (belSet (belSet (belSet (belSet (belSet (belSet (belSet (hb9) ⟨w.heap.size, 0, none⟩ (.string p.id) (Nat.le_refl _)) ⟨w.heap.size, 1, none⟩ (.int .i64 p.prio) (Nat.le_refl _)) ⟨w.heap.size, 2, none⟩ (.bool p.crit) (Nat.le_refl _)) ⟨w.heap.size, 3, none⟩ (.int .i64 p.r0) (Nat.le_refl _)) ⟨w.heap.size, 4, none⟩ (.int .i64 p.r1) (Nat.le_refl _)) ⟨w.heap.size, 5, none⟩ (.int .i64 p.r2) (Nat.le_refl _)) ⟨w.heap.size, 6, none⟩ (.int .i64 p.l0) (Nat.le_refl _)) ⟨w.heap.size, 7, none⟩ (.int .i64 p.l1) (Nat.le_refl _)) ⟨w.heap.size, 8, none⟩ (.int .i64 p.l2) (Nat.le_refl _)) ⟨w.heap.size, 9, none⟩ (.string p.img) (Nat.le_refl _)) ⟨w.heap.size, 10, none⟩ (.int .i64 p.size) (Nat.le_refl _)
  have hR10 := (((((((((((hR6).set 0 (.string p.id)).set 1 (.int .i64 p.prio)).set 2 (.bool p.crit)).set 3 (.int .i64 p.r0)).set 4 (.int .i64 p.r1)).set 5 (.int .i64 p.r2)).set 6 (.int .i64 p.l0)).set 7 (.int .i64 p.l1)).set 8 (.int .i64 p.l2)).set 9 (.string p.img)).set 10 (.int .i64 p.size)
  generalize (((((((((((w6).setCell ⟨w.heap.size, 0, none⟩ (.string p.id)).setCell ⟨w.heap.size, 1, none⟩ (.int .i64 p.prio)).setCell ⟨w.heap.size, 2, none⟩ (.bool p.crit)).setCell ⟨w.heap.size, 3, none⟩ (.int .i64 p.r0)).setCell ⟨w.heap.size, 4, none⟩ (.int .i64 p.r1)).setCell ⟨w.heap.size, 5, none⟩ (.int .i64 p.r2)).setCell ⟨w.heap.size, 6, none⟩ (.int .i64 p.l0)).setCell ⟨w.heap.size, 7, none⟩ (.int .i64 p.l1)).setCell ⟨w.heap.size, 8, none⟩ (.int .i64 p.l2)).setCell ⟨w.heap.size, 9, none⟩ (.string p.img)).setCell ⟨w.heap.size, 10, none⟩ (.int .i64 p.size) = W10 at hb10 hR10 hO10 ⊢
  have HO10 := Lib.hid hO10
  clear hO10
  go_wp2
  exact Cut_ret w W10 _ _ 0 p _ rfl rfl rfl hR10 ⟨v6, rfl, OwnI.mono HO10.out (Nat.le_of_lt hlt4), hb10⟩
end Go.Proofs.Ytpmkhimmlpnbpaa
