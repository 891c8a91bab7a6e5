
/- Stage 22: containers that came in; bilgeref22.Fit, Lost; sweep.ids: contracts. -/
import Derived.Test.YtampkolkbjmmkaaSw1
namespace Go.Proofs.Ytampkolkbjmmkaa
open Go.RowKit Go.Sort
set_option linter.unusedVariables false
set_option linter.unusedSimpArgs false
structure ContV where
  id : ByteArray
  state : Int
  tries : Int
  last : Int
def ContV.cells (x : ContV) : List Value := [.string x.id, .int .i64 x.state, .int .i64 x.tries, .int .i64 x.last]
theorem ContV.cells_len (x : ContV) : x.cells.length = 4 := rfl
def ContV.ok (x : ContV) : Prop := x.id.size ≤ maxLen ∧ InI x.state ∧ InI x.tries ∧ InI x.last
instance : Inhabited ContV := ⟨⟨⟨#[]⟩, 0, 0, 0⟩⟩
theorem list4v {l : List Value} (h : l.length = 4) : ∃ a b c d, l = [a, b, c, d] := by
  match l, h with
  | [a, b, c, d], _ => exact ⟨_, _, _, _, rfl⟩
theorem rd_box2 {w : World} {a b : Value} (h : Rd Try.prog w 33 [a, b]) : ∃ s t, a = .int .i64 s ∧ b = .int .i64 t ∧ InI s ∧ InI t := by
  obtain ⟨hl, hf⟩ := Rd.struct Try.underlying33 h
  have h0 := hf 0 _ rfl
  have h1 := hf 1 _ rfl
  simp [show Try.prog.cellsOf 3 = 1 by kernel_rfl] at h0 h1
  obtain ⟨s, e0, w0⟩ := Rd.int Try.underlying3 h0
  obtain ⟨t, e1, w1⟩ := Rd.int Try.underlying3 h1
  simp at e0 e1
  exact ⟨s, t, e0, e1, inI_of_wf w0, inI_of_wf w1⟩
theorem rd_cont {w : World} {cs : List Value} (h : Rd Try.prog w 35 cs) : ∃ x : ContV, cs = x.cells ∧ x.ok := by
  obtain ⟨hl, hf⟩ := Rd.struct Try.underlying35 h
  rw [show Try.prog.cellsOf 35 = 4 by kernel_rfl] at hl
  obtain ⟨a, b, c, d, rfl⟩ := list4v hl
  have h0 := hf 0 _ rfl
  have h1 := hf 1 _ rfl
  have h2 := hf 2 _ rfl
  simp [show Try.prog.cellsOf 3 = 1 by kernel_rfl, show Try.prog.cellsOf 9 = 1 by kernel_rfl, show Try.prog.cellsOf 33 = 2 by kernel_rfl] at h0 h1 h2
  obtain ⟨s, e0, w0⟩ := Rd.string Try.underlying9 h0
  obtain ⟨m, n, rfl, rfl, i1, i2⟩ := rd_box2 h1
  obtain ⟨o, e2, w2⟩ := Rd.int Try.underlying3 h2
  simp at e0 e2
  subst e0 e2
  exact ⟨⟨s, m, n, o⟩, rfl, w0, i1, i2, inI_of_wf w2⟩
set_option maxRecDepth 100000 in
theorem open_conts {H : Type} {enc : TypeId × Value → H} {W : World} {v : Value} {b : Nat} {d : DataW H} {p : List MemPlace} (o : Value.okWide Try.prog W .any b 22 v) (h : DataW.Trod enc Try.prog W 0 (fun _ => true) true 22 v d p) :
    ∃ (a : Option Addr) (len cap : Nat) (L : List ContV), v = .slice a len cap ∧ L.length = len ∧ (∀ x ∈ L, x.ok) ∧ Row W a len cap 4 (L.flatMap ContV.cells) := by
  obtain ⟨a, len, cap, rfl⟩ := slice_of_ok Try.underlying22 o
  obtain ⟨L, h1, h2, h3⟩ := Rd.rows ContV.cells 4 Try.underlying22 (by kernel_rfl) (by omega) ContV.cells_len ContV.ok (fun es hes => rd_cont hes) (Rd.of h)
  exact ⟨a, len, cap, L, rfl, h1, h2, h3⟩
def stepC (L : List ContV) (k : Nat) : Bool := match L[k]? with
  | none => true
  | some x => decide (x.id.size ≤ 60) && (match k with | 0 => true | j + 1 => match L[j]? with | none => true | some y => Op.bytesLess y.id.toList x.id.toList)
def chkC (L : List ContV) : Nat → Bool
  | 0 => true
  | k + 1 => chkC L k && stepC L k
def fitC (L : List ContV) : Bool := decide (L.length ≤ 60) && chkC L L.length
theorem chkC_no {L : List ContV} {k n : Nat} (hk : k < n) (h : stepC L k = false) : chkC L n = false := by
  induction n with
  | zero => omega
  | succ n ih =>
    unfold chkC
    by_cases e : k = n
    · subst e; rw [h, Bool.and_false]
    · rw [ih (by omega), Bool.false_and]
theorem chkC_at {L : List ContV} : ∀ {n : Nat}, chkC L n = true → ∀ k, k < n → stepC L k = true := by
  intro n
  induction n with
  | zero => intro h k hk; omega
  | succ n ih =>
    intro h k hk
    unfold chkC at h
    rw [Bool.and_eq_true] at h
    by_cases e : k = n
    · subst e; exact h.2
    · exact ih h.1 k (by omega)
theorem stepC_0 {L : List ContV} {x : ContV} (h : L[0]? = some x) : stepC L 0 = decide (x.id.size ≤ 60) := by unfold stepC; rw [h]; simp
theorem stepC_s {L : List ContV} {k : Nat} {x y : ContV} (h : L[k + 1]? = some x) (hy : L[k]? = some y) : stepC L (k + 1) = (decide (x.id.size ≤ 60) && Op.bytesLess y.id.toList x.id.toList) := by unfold stepC; rw [h]; simp [hy]
theorem stepC_bad {L : List ContV} {k : Nat} {x : ContV} (h : L[k]? = some x) (hb : decide (x.id.size ≤ 60) = false) : stepC L k = false := by unfold stepC; rw [h]; simp only [hb, Bool.false_and]
def RisesC (L : List ContV) : Prop := L.Pairwise (fun a b => a.id.toList < b.id.toList)
theorem fit_len {L : List ContV} (h : fitC L = true) : L.length ≤ 60 := by unfold fitC at h; rw [Bool.and_eq_true] at h; exact of_decide_eq_true h.1
theorem fit_rises {L : List ContV} (h : fitC L = true) : RisesC L := by
  unfold fitC at h
  rw [Bool.and_eq_true] at h
  have h := h.2
  have key : ∀ i j (hi : i < L.length) (hj : j < L.length), i < j → L[i].id.toList < L[j].id.toList := by
    intro i j hi hj hij
    induction j with
    | zero => omega
    | succ j ih =>
      have h2 := chkC_at h (j + 1) hj
      rw [stepC_s (List.getElem?_eq_getElem hj) (List.getElem?_eq_getElem (show j < L.length by omega)), Bool.and_eq_true, bytesLess_iff] at h2
      have h3 := of_decide_eq_true h2.2
      by_cases e : i = j
      · subst e; exact h3
      · exact List.lt_trans (ih (by omega) (by omega)) h3
  exact List.pairwise_iff_getElem.2 (fun i j hi hj hij => key i j hi hj hij)
def lostB (U : List ByteArray) (x : ContV) : Bool := x.state == 3 && !hasU U x.id
def lostC (L : List ContV) (U : List ByteArray) : List ByteArray := (L.filter (lostB U)).map ContV.id
theorem lost_next {L : List ContV} {U : List ByteArray} {k : Nat} {x : ContV} (h : L[k]? = some x) (hf : lostB U x = true) : lostC (L.take (k + 1)) U = lostC (L.take k) U ++ [x.id] := by
  unfold lostC; rw [filtG_next h hf, List.map_append]; rfl
theorem lost_same {L : List ContV} {U : List ByteArray} {k : Nat} {x : ContV} (h : L[k]? = some x) (hf : lostB U x = false) : lostC (L.take (k + 1)) U = lostC (L.take k) U := by
  unfold lostC; rw [filtG_same h hf]
theorem lost_len (L : List ContV) (U : List ByteArray) (k : Nat) : (lostC (L.take k) U).length ≤ L.length := by
  unfold lostC
  rw [List.length_map]
  have h1 := List.length_filter_le (lostB U) (L.take k)
  rw [List.length_take] at h1
  omega
set_option maxRecDepth 100000 in
set_option maxHeartbeats 16000000 in
theorem cref_Fit (a : Option Addr) (len cap : Nat) (L : List ContV) (w : World) (hl : L.length = len) (hR : Row w a len cap 4 (L.flatMap ContV.cells)) (hok : ∀ x ∈ L, x.ok) :
    Calls Try.prog 20 #[.slice a len cap] w fun e w' => e = .returned (.bool (fitC L)) ∧ Below w.heap.size w w' := by
  have hw : Below w.heap.size w w := Below.refl _ _
  have hbel := hw
  have hbd_a : len ≤ cap ∧ cap ≤ 9223372036854775807 := by obtain ⟨_, h1, h2, _⟩ := hR; unfold maxLen at h2; exact ⟨h1, h2⟩
  obtain ⟨hbd1_a, hbd2_a⟩ := hbd_a
  have HR := Lib.hid hR
  have HOK := Lib.hid hok
  clear hR hok
  subst hl
  go_enter Try.func20, Try.ntmps20
  by_cases h60 : 60 < L.length
  · have HRES := Lib.hid (show fitC L = false by unfold fitC; rw [decide_eq_false (by omega)]; rfl)
    have d0 : decide ((60 : Int) < (L.length : Int)) = true := decide_eq_true (by omega)
    have d1 : (60 : Int) < (L.length : Int) := by omega
    go_wp2
    go_ret
    exact ⟨by rw [HRES.out]; rfl, hw⟩
  · have d0 : decide ((60 : Int) < (L.length : Int)) = false := decide_eq_false (by omega)
    have d1 : ¬ (60 : Int) < (L.length : Int) := by omega
    have HFT := Lib.hid (show fitC L = chkC L L.length by unfold fitC; rw [decide_eq_true (by omega), Bool.true_and])
    clear hbel
    go_wp2
    clear d0 d1
    go_loopw [3] (fun i wr => ∃ k : Nat, k ≤ L.length ∧ i = .int .i64 k ∧ Hid (chkC L k = true) ∧ Below w.heap.size w wr) (fun i _ => L.length - (intOf i).toNat)
    case atStart => exact ⟨0, Nat.zero_le _, rfl, Lib.hid rfl, hw⟩
    case round =>
      clear hw
      obtain ⟨k, hk, rfl, HC, hbr⟩ := hrel
      by_cases hlt : k < L.length
      · have hd : decide ((k : Int) < (L.length : Int)) = true := decide_eq_true (by omega)
        have hki : (k : Int) < (L.length : Int) := by omega
        have hk0 : (0 : Int) ≤ (k : Int) := by omega
        obtain ⟨x, hx⟩ : ∃ x, L[k]? = some x := ⟨L[k], List.getElem?_eq_getElem hlt⟩
        obtain ⟨bc, oc, ec, _, hcc⟩ := (HR.out.later hbr).elem ContV.cells_len (by omega) hx
        subst ec
        have c0 := keep (hcc 0 _ rfl)
        have c1 := keep (hcc 1 _ rfl)
        have c2 := keep (hcc 2 _ rfl)
        have c3 := keep (hcc 3 _ rfl)
        rw [Nat.add_zero] at c0
        have HX := Lib.hid hx
        have hsz := (HOK.out x (List.mem_of_getElem? hx)).1
        unfold maxLen at hsz
        clear hx hcc
        have HBR := Lib.hid hbr
        clear hbr
        have hbel : Below wr.heap.size wr wr := Below.refl _ _
        have hw : Below wr.heap.size wr wr := Below.refl _ _
        by_cases hs : 60 < x.id.size
        · have HB := Lib.hid (show decide (x.id.size ≤ 60) = false from decide_eq_false (by omega))
          have d1 : decide ((60 : Int) < (x.id.size : Int)) = true := decide_eq_true (by omega)
          have d2 : (60 : Int) < (x.id.size : Int) := by omega
          have HRES := Lib.hid (show fitC L = false from HFT.out.trans (chkC_no hlt (stepC_bad HX.out HB.out)))
          go_wp2
          have kk := fun d os => belStep hbel (below_regrown _ d os)
          refine wp_region_quiet_below (by kernel_rfl) (by kernel_rfl) ?_
          repeat ((with_reducible refine wpQuiet_step (fun K hK => ?_)); go_simp; (try (rw [if_neg]; rotate_left; · decide)); first | ((with_reducible refine hK _ ?_); clear hK K) | (apply Exists.intro; refine ⟨fun _ => ?_, hK _ ?_⟩; (fail); clear hK K))
          refine wpQuiet_nil (fun w1 hw1 => ?_)
          replace hbel := belStep hbel (bel_of_class hw1)
          clear hw1 kk
          go_wp2
          go_ret
          exact ⟨by rw [HRES.out]; rfl, belStep HBR.out hbel⟩
        · have d1 : decide ((60 : Int) < (x.id.size : Int)) = false := decide_eq_false (by omega)
          have d2 : ¬ (60 : Int) < (x.id.size : Int) := by omega
          have HB := Lib.hid (show decide (x.id.size ≤ 60) = true from decide_eq_true (by omega))
          by_cases hk9 : k = 0
          · have hg : decide ((0 : Int) < (k : Int)) = false := decide_eq_false (by omega)
            have hg2 : ¬ (0 : Int) < (k : Int) := by omega
            have hg3 : ¬ 0 < k := by omega
            have HK9 := Lib.hid hk9
            clear hk9
            have HS := Lib.hid (show chkC L (k + 1) = true by unfold chkC; rw [HC.out, Bool.true_and]; exact (by have hx2 := HX.out; rw [HK9.out] at hx2 ⊢; rw [stepC_0 hx2]; exact HB.out))
            go_wp2
            have kk := fun d os => belStep hbel (below_regrown _ d os)
            refine wp_region_quiet_below (by kernel_rfl) (by kernel_rfl) ?_
            repeat ((with_reducible refine wpQuiet_step (fun K hK => ?_)); go_simp; (try (rw [if_neg]; rotate_left; · decide)); first | ((with_reducible refine hK _ ?_); clear hK K) | (apply Exists.intro; refine ⟨fun _ => ?_, hK _ ?_⟩; (fail); clear hK K))
            refine wpQuiet_nil (fun w1 hw1 => ?_)
            replace hbel := belStep hbel (bel_of_class hw1)
            clear hw1 kk
            go_wp2
            go_roundw
            case rel => exact ⟨k + 1, by omega, by push_cast; rfl, HS, belStep HBR.out hbel⟩
            case measure => simp [intOf] <;> omega
          · obtain ⟨j, hj9⟩ : ∃ j, k = j + 1 := ⟨k - 1, by omega⟩
            have hg : decide ((0 : Int) < (k : Int)) = true := decide_eq_true (by omega)
            have hg2 : (0 : Int) < (k : Int) := by omega
            have hg3 : 0 < k := by omega
            have hj1 : IntKind.i64.wrap ((k : Int) - 1) = (j : Int) := by rw [show (k : Int) - 1 = (j : Int) by omega]; exact IntWalk.i64_in _ (by omega)
            have hj0 : (k : Int) - 1 = (j : Int) := by omega
            have hj4 : IntKind.i64.wrap (j : Int) = (j : Int) := IntWalk.i64_in _ (by omega)
            have hj2 : (j : Int) < (L.length : Int) := by omega
            have hj3 : (0 : Int) ≤ (j : Int) := by omega
            have hjl : j < L.length := by omega
            obtain ⟨y, hy⟩ : ∃ y, L[j]? = some y := ⟨L[j], List.getElem?_eq_getElem hjl⟩
            obtain ⟨be, oe, ee, _, hce⟩ := (HR.out.later HBR.out).elem ContV.cells_len (by omega) hy
            simp only [Option.some.injEq, Addr.mk.injEq, and_true] at ee
            obtain ⟨rfl, rfl⟩ := ee
            have e0 := keep (hce 0 _ rfl)
            have e1 := keep (hce 1 _ rfl)
            have e2 := keep (hce 2 _ rfl)
            have e3 := keep (hce 3 _ rfl)
            rw [Nat.add_zero] at e0
            have HY := Lib.hid hy
            have HX2 := Lib.hid (show L[j + 1]? = some x from hj9 ▸ HX.out)
            have HJ9 := Lib.hid hj9
            clear hj9 hy hce
            cases hlb : Op.bytesLess y.id.toList x.id.toList with
            | false =>
              have HLB := Lib.hid hlb
              have HRES := Lib.hid (show fitC L = false from HFT.out.trans (chkC_no hlt (by rw [HJ9.out, stepC_s HX2.out HY.out, HLB.out]; simp)))
              go_wp2
              have kk := fun d os => belStep hbel (below_regrown _ d os)
              refine wp_region_quiet_below (by kernel_rfl) (by kernel_rfl) ?_
              repeat ((with_reducible refine wpQuiet_step (fun K hK => ?_)); go_simp; (try (rw [if_neg]; rotate_left; · decide)); first | ((with_reducible refine hK _ ?_); clear hK K) | (apply Exists.intro; refine ⟨fun _ => ?_, hK _ ?_⟩; (fail); clear hK K))
              refine wpQuiet_nil (fun w1 hw1 => ?_)
              replace hbel := belStep hbel (bel_of_class hw1)
              clear hw1 kk
              go_wp2
              go_ret
              exact ⟨by rw [HRES.out]; rfl, belStep HBR.out hbel⟩
            | true =>
              have HLB := Lib.hid hlb
              have HS := Lib.hid (show chkC L (k + 1) = true by unfold chkC; rw [HC.out, Bool.true_and]; exact (by rw [HJ9.out, stepC_s HX2.out HY.out, HB.out, HLB.out]; rfl))
              go_wp2
              have kk := fun d os => belStep hbel (below_regrown _ d os)
              refine wp_region_quiet_below (by kernel_rfl) (by kernel_rfl) ?_
              repeat ((with_reducible refine wpQuiet_step (fun K hK => ?_)); go_simp; (try (rw [if_neg]; rotate_left; · decide)); first | ((with_reducible refine hK _ ?_); clear hK K) | (apply Exists.intro; refine ⟨fun _ => ?_, hK _ ?_⟩; (fail); clear hK K))
              refine wpQuiet_nil (fun w1 hw1 => ?_)
              replace hbel := belStep hbel (bel_of_class hw1)
              clear hw1 kk
              go_wp2
              go_roundw
              case rel => exact ⟨k + 1, by omega, by push_cast; rfl, HS, belStep HBR.out hbel⟩
              case measure => simp [intOf] <;> omega
      · obtain rfl : k = L.length := by omega
        have hd : decide ((L.length : Int) < (L.length : Int)) = false := decide_eq_false (by omega)
        go_wp2
        go_ret
        exact ⟨by rw [show fitC L = true from HFT.out.trans HC.out]; rfl, hbr⟩
set_option maxRecDepth 100000 in
set_option maxHeartbeats 16000000 in
theorem cref_Lost (a : Option Addr) (len cap : Nat) (L : List ContV) (b : Option Addr) (ul uc : Nat) (U : List ByteArray) (w : World) (hl : L.length = len) (hR : Row w a len cap 4 (L.flatMap ContV.cells)) (hu : U.length = ul) (hRU : Row w b ul uc 1 (U.map Value.string)) (hn : len ≤ 100000) :
    Calls Try.prog 24 #[.slice a len cap, .slice b ul uc] w fun e w' => ∃ v, e = .returned v ∧ OwnR w' w.heap.size 9 1 v (lostC L U).length ((lostC L U).map Value.string) ∧ Below w.heap.size w w' := by
  have hw : Below w.heap.size w w := Below.refl _ _
  have hbd_a : len ≤ cap ∧ cap ≤ 9223372036854775807 := by obtain ⟨_, h1, h2, _⟩ := hR; unfold maxLen at h2; exact ⟨h1, h2⟩
  obtain ⟨hbd1_a, hbd2_a⟩ := hbd_a
  have hbd_u : ul ≤ uc ∧ uc ≤ 9223372036854775807 := by obtain ⟨_, h1, h2, _⟩ := hRU; unfold maxLen at h2; exact ⟨h1, h2⟩
  obtain ⟨hbd1_u, hbd2_u⟩ := hbd_u
  have HR := Lib.hid hR
  have HRU := Lib.hid hRU
  clear hR hRU
  subst hl hu
  go_enter Try.func24, Try.ntmps24
  go_wp2
  go_loopw [5, 6] (fun v i wr => ∃ k : Nat, k ≤ L.length ∧ i = .int .i64 k ∧ OwnR wr w.heap.size 9 1 v (lostC (L.take k) U).length ((lostC (L.take k) U).map Value.string) ∧ Below w.heap.size w wr) (fun _ i _ => L.length - (intOf i).toNat)
  case atStart => exact ⟨0, Nat.zero_le _, rfl, OwnR.nil _ _ _ _, hw⟩
  case round =>
    clear hw
    obtain ⟨k, hk, rfl, hO, hbel⟩ := hrel
    have hfl := lost_len L U k
    by_cases hlt : k < L.length
    · have hd : decide ((k : Int) < (L.length : Int)) = true := decide_eq_true (by omega)
      have hki : (k : Int) < (L.length : Int) := by omega
      have hk0 : (0 : Int) ≤ (k : Int) := by omega
      obtain ⟨x, hx⟩ : ∃ x, L[k]? = some x := ⟨L[k], List.getElem?_eq_getElem hlt⟩
      obtain ⟨bc, oc, ec, _, hcc⟩ := (HR.out).elem ContV.cells_len (by omega) hx
      subst ec
      have c0 := keep (hcc 0 _ rfl)
      have c1 := keep (hcc 1 _ rfl)
      have c2 := keep (hcc 2 _ rfl)
      have c3 := keep (hcc 3 _ rfl)
      rw [Nat.add_zero] at c0
      have HX := Lib.hid hx
      have HO := Lib.hid hO
      clear hx hcc hO
      by_cases hs : x.state = 3
      · have d0 : (x.state == (3 : Int)) = true := by rw [hs]; rfl
        obtain ⟨h9, hh9⟩ : ∃ q, hasU U x.id = q := ⟨_, rfl⟩
        have CHA := Lib.hid (fun u (hu : Below w.heap.size w u) => hh9 ▸ iref_Has b U.length uc U x.id u rfl (HRU.out.later hu))
        have HH := Lib.hid hh9
        clear hh9
        cases h9 with
        | true =>
          have HN := Lib.hid (lost_same HX.out (U := U) (by unfold lostB; rw [HH.out]; simp))
          go_wp2_with (go_at_call 29; (with_reducible refine (CHA.out _ hbel).mono ?_); rintro e w6 ⟨rfl, hb_⟩; replace HO := Lib.hid (OwnR.later HO.out hb_); have hbz := belStep hbel hb_; clear hbel; have hbel := hbz; clear hbz hb_)
          go_roundw
          case rel => exact ⟨k + 1, by omega, by push_cast; rfl, by rw [HN.out]; exact HO.out, hbel⟩
          case measure => simp [intOf] <;> omega
        | false =>
          have HN := Lib.hid (lost_next HX.out (U := U) (by unfold lostB; rw [HH.out, d0]; rfl))
          go_upto_region 6 with (go_at_call 29; (with_reducible refine (CHA.out _ hbel).mono ?_); rintro e w6 ⟨rfl, hb_⟩; replace HO := Lib.hid (OwnR.later HO.out hb_); have hbz := belStep hbel hb_; clear hbel; have hbel := hbz; clear hbz hb_)
          obtain ⟨N, hN⟩ : ∃ N, lostC (L.take k) U = N := ⟨_, rfl⟩
          rw [hN] at HO HN hfl
          clear hN
          have HOA := Lib.hid (OwnR.alloc HO.out (.cells #[.string x.id] 9))
          have HRA := Lib.hid (row_new w6 [.string x.id] 9 1 1 rfl (by unfold maxLen; omega))
          go_wp2_with (at_builtin; go_loud (refine wpList_app_row rfl _ _ 23 rfl w.heap.size 9 _ 1 16 Try.underlying23 info_strI rfl (by decide) _ _ _ rfl HOA.out _ 1 1 [.string x.id] rfl HRA.out (str_one x.id) ?c1 ?c2 ?c3 ?_))
          case c1 => simp only [maxLen]; omega
          case c2 => omega
          case c3 => have := hbel.size; simp; omega
          intro v' w9 ho' hb' _
          have HO2 := Lib.hid (own_snocM (enc := Value.string) ho')
          have HB2 := Lib.hid ((belAlloc hbel (.cells #[.string x.id] 9)).trans hb')
          clear ho' hb'
          go_wp2
          go_roundw
          case rel => exact ⟨k + 1, by omega, by push_cast; rfl, by rw [HN.out]; exact HO2.out, HB2.out⟩
          case measure => simp [intOf] <;> omega
      · have d0 : (x.state == (3 : Int)) = false := by rw [beq_eq_false_iff_ne]; exact hs
        have HN := Lib.hid (lost_same HX.out (U := U) (by unfold lostB; rw [d0]; rfl))
        go_wp2
        go_roundw
        case rel => exact ⟨k + 1, by omega, by push_cast; rfl, by rw [HN.out]; exact HO.out, hbel⟩
        case measure => simp [intOf] <;> omega
    · obtain rfl : k = L.length := by omega
      have hd : decide ((L.length : Int) < (L.length : Int)) = false := decide_eq_false (by omega)
      rw [List.take_length] at hO
      go_wp2
      go_ret
      exact ⟨_, rfl, hO, hbel⟩
set_option maxRecDepth 100000 in
set_option maxHeartbeats 16000000 in
theorem sw_ids (a : Option Addr) (len cap : Nat) (L : List ContV) (w : World) (hl : L.length = len) (hR : Row w a len cap 4 (L.flatMap ContV.cells)) (hn : len ≤ 100000) :
    Calls Try.prog 53 #[.slice a len cap] w fun e w' => ∃ v, e = .returned v ∧ OwnR w' w.heap.size 9 1 v (L.map ContV.id).length ((L.map ContV.id).map Value.string) ∧ Below w.heap.size w w' := by
  have hw : Below w.heap.size w w := Below.refl _ _
  have hbd_a : len ≤ cap ∧ cap ≤ 9223372036854775807 := by obtain ⟨_, h1, h2, _⟩ := hR; unfold maxLen at h2; exact ⟨h1, h2⟩
  obtain ⟨hbd1_a, hbd2_a⟩ := hbd_a
  have HR := Lib.hid hR
  clear hR
  subst hl
  go_enter Try.func53, Try.ntmps53
  go_wp2
  go_loopw [3, 8] (fun v i wr => ∃ k : Nat, k ≤ L.length ∧ i = .int .i64 k ∧ OwnR wr w.heap.size 9 1 v ((L.take k).map ContV.id).length (((L.take k).map ContV.id).map Value.string) ∧ Below w.heap.size w wr) (fun _ i _ => L.length - (intOf i).toNat)
  case atStart => exact ⟨0, Nat.zero_le _, rfl, OwnR.nil _ _ _ _, hw⟩
  case round =>
    clear hw
    obtain ⟨k, hk, rfl, hO, hbr⟩ := hrel
    by_cases hlt : k < L.length
    · have hd : decide ((k : Int) < (L.length : Int)) = true := decide_eq_true (by omega)
      have hki : (k : Int) < (L.length : Int) := by omega
      have hk0 : (0 : Int) ≤ (k : Int) := by omega
      obtain ⟨x, hx⟩ : ∃ x, L[k]? = some x := ⟨L[k], List.getElem?_eq_getElem hlt⟩
      obtain ⟨bc, oc, ec, _, hcc⟩ := (HR.out.later hbr).elem ContV.cells_len (by omega) hx
      subst ec
      have c0 := keep (hcc 0 _ rfl)
      have c1 := keep (hcc 1 _ rfl)
      have c2 := keep (hcc 2 _ rfl)
      have c3 := keep (hcc 3 _ rfl)
      rw [Nat.add_zero] at c0
      have HN := Lib.hid (mapG_next (f := ContV.id) hx)
      obtain ⟨N, hN⟩ : ∃ N, (L.take k).map ContV.id = N := ⟨_, rfl⟩
      have hNl : N.length ≤ L.length := by rw [← hN]; simp; omega
      rw [hN] at hO HN
      clear hN hx hcc
      have hbel : Below wr.heap.size wr wr := Below.refl _ _
      go_upto_region 5 with fail
      clear hbel
      have k1 : Below wr.heap.size wr (wr.alloc (.cells #[.string x.id, .int .i64 x.state, .int .i64 x.tries, .int .i64 x.last] 35)) := belAlloc (Below.refl _ _) _
      have HX := Lib.hid (show Blk (wr.alloc (.cells #[.string x.id, .int .i64 x.state, .int .i64 x.tries, .int .i64 x.last] 35)) wr.heap.size [.string x.id, .int .i64 x.state, .int .i64 x.tries, .int .i64 x.last] 35 from Blk.new wr [.string x.id, .int .i64 x.state, .int .i64 x.tries, .int .i64 x.last] 35)
      have HO5 := Lib.hid (OwnR.alloc hO (.cells #[.string x.id, .int .i64 x.state, .int .i64 x.tries, .int .i64 x.last] 35))
      have hbel := belStep hbr k1
      clear hO hbr k1 c0 c1 c2 c3
      generalize wr.alloc (.cells #[.string x.id, .int .i64 x.state, .int .i64 x.tries, .int .i64 x.last] 35) = W5 at *
      have x0 := HX.out.cell (j := 0) rfl
      have HOA := Lib.hid (OwnR.alloc HO5.out (.cells #[.string x.id] 9))
      have HRA := Lib.hid (row_new W5 [.string x.id] 9 1 1 rfl (by unfold maxLen; omega))
      go_wp2_with (at_builtin; go_loud (refine wpList_app_row rfl _ _ 23 rfl w.heap.size 9 _ 1 16 Try.underlying23 info_strI rfl (by decide) _ _ _ rfl HOA.out _ 1 1 [.string x.id] rfl HRA.out (str_one x.id) ?c1 ?c2 ?c3 ?_))
      case c1 => simp only [maxLen]; omega
      case c2 => omega
      case c3 => have := hbel.size; simp; omega
      intro v' w9 ho' hb' _
      have HO2 := Lib.hid (own_snocM (enc := Value.string) ho')
      have HB2 := Lib.hid ((belAlloc hbel (.cells #[.string x.id] 9)).trans hb')
      clear ho' hb'
      go_wp2
      go_roundw
      case rel => exact ⟨k + 1, by omega, by push_cast; rfl, by rw [HN.out]; exact HO2.out, HB2.out⟩
      case measure => simp [intOf] <;> omega
    · obtain rfl : k = L.length := by omega
      have hd : decide ((L.length : Int) < (L.length : Int)) = false := decide_eq_false (by omega)
      rw [List.take_length] at hO
      go_wp2
      go_ret
      exact ⟨_, rfl, hO, hbr⟩
end Go.Proofs.Ytampkolkbjmmkaa
