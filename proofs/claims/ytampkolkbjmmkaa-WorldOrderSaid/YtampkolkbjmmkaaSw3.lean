
/- Stage 22: bilgeref22.next: contract. -/
import Derived.Test.YtampkolkbjmmkaaSw2
namespace Go.Proofs.Ytampkolkbjmmkaa
open Go.RowKit Go.Sort
set_option linter.unusedVariables false
set_option linter.unusedSimpArgs false
def candB (U T : List ByteArray) (x : ContV) : Bool := !(x.state == 3) && (!hasU U x.id && !hasU T x.id)
def lessC (x y : ContV) : Bool := decide (x.last < y.last) || (x.last == y.last && Op.bytesLess x.id.toList y.id.toList)
/-- Of the first k, which goes first. -/
def nxt (L : List ContV) (U T : List ByteArray) : Nat → Option Nat
  | 0 => none
  | k + 1 => match L[k]? with
    | none => nxt L U T k
    | some x => if candB U T x then (match nxt L U T k with
        | none => some k
        | some b => match L[b]? with
          | none => some b
          | some y => if lessC x y then some k else some b) else nxt L U T k
def idxO : Option Nat → Int
  | none => -1
  | some b => (b : Int)
theorem nxt_not {L : List ContV} {U T : List ByteArray} {k : Nat} {x : ContV} (h : L[k]? = some x) (hc : candB U T x = false) : nxt L U T (k + 1) = nxt L U T k := by
  conv => lhs; unfold nxt
  simp only [h, hc, Bool.false_eq_true, if_false]
theorem nxt_first {L : List ContV} {U T : List ByteArray} {k : Nat} {x : ContV} (h : L[k]? = some x) (hc : candB U T x = true) (hn : nxt L U T k = none) : nxt L U T (k + 1) = some k := by
  conv => lhs; unfold nxt
  simp only [h, hc, hn, if_true]
theorem nxt_less {L : List ContV} {U T : List ByteArray} {k b : Nat} {x y : ContV} (h : L[k]? = some x) (hc : candB U T x = true) (hn : nxt L U T k = some b) (hy : L[b]? = some y) : nxt L U T (k + 1) = if lessC x y then some k else some b := by
  conv => lhs; unfold nxt
  simp only [h, hc, hn, hy, if_true]
theorem nxt_lt {L : List ContV} {U T : List ByteArray} : ∀ {k b : Nat}, k ≤ L.length → nxt L U T k = some b → b < k ∧ ∃ y, L[b]? = some y ∧ candB U T y = true := by
  intro k
  induction k with
  | zero => intro b _ h; cases h
  | succ k ih =>
    intro b hk h
    have hx := List.getElem?_eq_getElem (show k < L.length by omega)
    cases hc : candB U T L[k] with
    | false => rw [nxt_not hx hc] at h; obtain ⟨h1, h2⟩ := ih (by omega) h; exact ⟨by omega, h2⟩
    | true =>
      cases hn : nxt L U T k with
      | none => rw [nxt_first hx hc hn] at h; cases h; exact ⟨by omega, _, hx, hc⟩
      | some c =>
        obtain ⟨h1, y, hy, hcy⟩ := ih (by omega) hn
        rw [nxt_less hx hc hn hy] at h
        split at h
        · cases h; exact ⟨by omega, _, hx, hc⟩
        · cases h; exact ⟨by omega, y, hy, hcy⟩
set_option maxRecDepth 100000 in
set_option maxHeartbeats 16000000 in
theorem cref_next (a : Option Addr) (len cap : Nat) (L : List ContV) (b : Option Addr) (ul uc : Nat) (U : List ByteArray) (t : Option Addr) (tl tc : Nat) (T : List ByteArray) (w : World) (hl : L.length = len) (hR : Row w a len cap 4 (L.flatMap ContV.cells)) (hu : U.length = ul) (hRU : Row w b ul uc 1 (U.map Value.string)) (ht : T.length = tl) (hRT : Row w t tl tc 1 (T.map Value.string)) :
    Calls Try.prog 64 #[.slice a len cap, .slice b ul uc, .slice t tl tc] w fun e w' => e = .returned (.int .i64 (idxO (nxt L U T L.length))) ∧ Below w.heap.size w w' := by
  have hw : Below w.heap.size w w := Below.refl _ _
  have hbd_a : len ≤ cap ∧ cap ≤ 9223372036854775807 := by obtain ⟨_, h1, h2, _⟩ := hR; unfold maxLen at h2; exact ⟨h1, h2⟩
  obtain ⟨hbd1_a, hbd2_a⟩ := hbd_a
  have hbd_u : ul ≤ uc ∧ uc ≤ 9223372036854775807 := by obtain ⟨_, h1, h2, _⟩ := hRU; unfold maxLen at h2; exact ⟨h1, h2⟩
  obtain ⟨hbd1_u, hbd2_u⟩ := hbd_u
  have hbd_t : tl ≤ tc ∧ tc ≤ 9223372036854775807 := by obtain ⟨_, h1, h2, _⟩ := hRT; unfold maxLen at h2; exact ⟨h1, h2⟩
  obtain ⟨hbd1_t, hbd2_t⟩ := hbd_t
  have HR := Lib.hid hR
  have HRU := Lib.hid hRU
  have HRT := Lib.hid hRT
  clear hR hRU hRT
  subst hl hu ht
  go_enter Try.func64, Try.ntmps64
  go_wp2
  go_loopw [7, 8] (fun bv iv wr => ∃ k : Nat, k ≤ L.length ∧ iv = .int .i64 k ∧ bv = .int .i64 (idxO (nxt L U T k)) ∧ Below w.heap.size w wr) (fun _ iv _ => L.length - (intOf iv).toNat)
  case atStart => exact ⟨0, Nat.zero_le _, rfl, rfl, hw⟩
  case round =>
    clear hw
    obtain ⟨k, hk, rfl, rfl, hbel⟩ := hrel
    by_cases hlt : k < L.length
    · have hd : decide ((k : Int) < (L.length : Int)) = true := decide_eq_true (by omega)
      have hki : (k : Int) < (L.length : Int) := by omega
      have hk0 : (0 : Int) ≤ (k : Int) := by omega
      obtain ⟨x, hx⟩ : ∃ x, L[k]? = some x := ⟨L[k], List.getElem?_eq_getElem hlt⟩
      obtain ⟨bc, oc, ec, _, hcc⟩ := (HR.out).elem ContV.cells_len (by omega) hx
      subst ec
      have c0 := keep (hcc 0 _ rfl)
      have c1 := keep (hcc 1 _ rfl)
      have c2 := keep (hcc 2 _ rfl)
      have c3 := keep (hcc 3 _ rfl)
      rw [Nat.add_zero] at c0
      have HX := Lib.hid hx
      clear hx hcc
      obtain ⟨h8, hh8⟩ : ∃ q, hasU U x.id = q := ⟨_, rfl⟩
      obtain ⟨h9, hh9⟩ : ∃ q, hasU T x.id = q := ⟨_, rfl⟩
      have C8 := Lib.hid (fun u (hu : Below w.heap.size w u) => hh8 ▸ iref_Has b U.length uc U x.id u rfl (HRU.out.later hu))
      have C9 := Lib.hid (fun u (hu : Below w.heap.size w u) => hh9 ▸ iref_Has t T.length tc T x.id u rfl (HRT.out.later hu))
      have HCB := Lib.hid (show candB U T x = (!(x.state == 3) && (!h8 && !h9)) by unfold candB; rw [hh8, hh9])
      clear hh8 hh9
      obtain ⟨o, ho⟩ : ∃ o, nxt L U T k = o := ⟨_, rfl⟩
      simp only [ho]
      have HNO := Lib.hid ho
      have hob := nxt_lt (L := L) (U := U) (T := T) (k := k) (b := o.getD 0) hk
      have HOB := Lib.hid hob
      clear ho hob
      by_cases hs : x.state = 3
      · have d0 : (x.state == (3 : Int)) = true := by rw [hs]; rfl
        rw [d0] at HCB
        have HN := Lib.hid ((nxt_not HX.out (HCB.out.trans (by simp))).trans HNO.out)
        go_wp2
        go_roundw
        case rel => exact ⟨k + 1, by omega, by push_cast; rfl, by rw [HN.out], hbel⟩
        case measure => simp [intOf] <;> omega
      · have d0 : (x.state == (3 : Int)) = false := by rw [beq_eq_false_iff_ne]; exact hs
        rw [d0] at HCB
        cases h8 with
        | true =>
          have HN := Lib.hid ((nxt_not HX.out (HCB.out.trans (by simp))).trans HNO.out)
          go_wp2_with (first | (go_at_call 29; (with_reducible refine (C8.out _ hbel).mono ?_); rintro e w8 ⟨rfl, hb_⟩; have hbz := belStep hbel hb_; clear hbel; have hbel := hbz; clear hbz hb_) | (go_at_call 29; (with_reducible refine (C9.out _ hbel).mono ?_); rintro e w9 ⟨rfl, hb_⟩; have hbz := belStep hbel hb_; clear hbel; have hbel := hbz; clear hbz hb_))
          go_roundw
          case rel => exact ⟨k + 1, by omega, by push_cast; rfl, by rw [HN.out], hbel⟩
          case measure => simp [intOf] <;> omega
        | false =>
          cases h9 with
          | true =>
            have HN := Lib.hid ((nxt_not HX.out (HCB.out.trans (by simp))).trans HNO.out)
            go_wp2_with (first | (go_at_call 29; (with_reducible refine (C8.out _ hbel).mono ?_); rintro e w8 ⟨rfl, hb_⟩; have hbz := belStep hbel hb_; clear hbel; have hbel := hbz; clear hbz hb_) | (go_at_call 29; (with_reducible refine (C9.out _ hbel).mono ?_); rintro e w9 ⟨rfl, hb_⟩; have hbz := belStep hbel hb_; clear hbel; have hbel := hbz; clear hbz hb_))
            go_roundw
            case rel => exact ⟨k + 1, by omega, by push_cast; rfl, by rw [HN.out], hbel⟩
            case measure => simp [intOf] <;> omega
          | false =>
            have HCT := Lib.hid (show candB U T x = true from HCB.out.trans (by simp))
            cases o with
            | none =>
              have HN := Lib.hid (nxt_first HX.out HCT.out HNO.out)
              have g0 : decide ((-1 : Int) < 0) = true := rfl
              simp only [idxO]
              go_upto_region 6 with (first | (go_at_call 29; (with_reducible refine (C8.out _ hbel).mono ?_); rintro e w8 ⟨rfl, hb_⟩; have hbz := belStep hbel hb_; clear hbel; have hbel := hbz; clear hbz hb_) | (go_at_call 29; (with_reducible refine (C9.out _ hbel).mono ?_); rintro e w9 ⟨rfl, hb_⟩; have hbz := belStep hbel hb_; clear hbel; have hbel := hbz; clear hbz hb_))
              have hw : Below w.heap.size w w := Below.refl _ _
              have kk := fun d os => belStep hbel (below_regrown _ d os)
              refine wp_region_quiet_below (by kernel_rfl) (by kernel_rfl) ?_
              repeat ((with_reducible refine wpQuiet_step (fun K hK => ?_)); go_simp; (try (rw [if_neg]; rotate_left; · decide)); first | ((with_reducible refine hK _ ?_); clear hK K) | (apply Exists.intro; refine ⟨fun _ => ?_, hK _ ?_⟩; (fail); clear hK K))
              refine wpQuiet_nil (fun w1 hw1 => ?_)
              replace hbel := belStep hbel (bel_of_class hw1)
              clear hw1 kk
              go_wp2
              go_roundw
              case rel => exact ⟨k + 1, by omega, by push_cast; rfl, by rw [HN.out] <;> rfl, hbel⟩
              case measure => simp [intOf] <;> omega
            | some p =>
              obtain ⟨hpk, y, hy, _⟩ := HOB.out HNO.out
              simp only [Option.getD_some] at hpk hy
              have HN := Lib.hid (nxt_less HX.out HCT.out HNO.out hy)
              have hpl : p < L.length := by omega
              have hpi : (p : Int) < (L.length : Int) := by omega
              have hp0 : (0 : Int) ≤ (p : Int) := by omega
              have g0 : decide ((p : Int) < 0) = false := decide_eq_false (by omega)
              have g1 : ¬ (p : Int) < 0 := by omega
              obtain ⟨be, oe, ee, _, hce⟩ := (HR.out).elem ContV.cells_len (by omega) hy
              simp only [Option.some.injEq, Addr.mk.injEq, and_true] at ee
              obtain ⟨rfl, rfl⟩ := ee
              have e0 := keep (hce 0 _ rfl)
              have e1 := keep (hce 1 _ rfl)
              have e2 := keep (hce 2 _ rfl)
              have e3 := keep (hce 3 _ rfl)
              rw [Nat.add_zero] at e0
              clear hy hce HOB
              simp only [idxO]
              by_cases hl1 : x.last < y.last
              · have g2 : decide (x.last < y.last) = true := decide_eq_true hl1
                have HN2 := Lib.hid (HN.out.trans (show _ = some k by rw [show lessC x y = true by unfold lessC; rw [g2]; rfl] <;> rfl))
                go_upto_region 6 with (first | (go_at_call 29; (with_reducible refine (C8.out _ hbel).mono ?_); rintro e w8 ⟨rfl, hb_⟩; have hbz := belStep hbel hb_; clear hbel; have hbel := hbz; clear hbz hb_) | (go_at_call 29; (with_reducible refine (C9.out _ hbel).mono ?_); rintro e w9 ⟨rfl, hb_⟩; have hbz := belStep hbel hb_; clear hbel; have hbel := hbz; clear hbz hb_))
                have hw : Below w.heap.size w w := Below.refl _ _
                have kk := fun d os => belStep hbel (below_regrown _ d os)
                refine wp_region_quiet_below (by kernel_rfl) (by kernel_rfl) ?_
                repeat ((with_reducible refine wpQuiet_step (fun K hK => ?_)); go_simp; (try (rw [if_neg]; rotate_left; · decide)); first | ((with_reducible refine hK _ ?_); clear hK K) | (apply Exists.intro; refine ⟨fun _ => ?_, hK _ ?_⟩; (fail); clear hK K))
                refine wpQuiet_nil (fun w1 hw1 => ?_)
                replace hbel := belStep hbel (bel_of_class hw1)
                clear hw1 kk
                go_wp2
                go_roundw
                case rel => exact ⟨k + 1, by omega, by push_cast; rfl, by rw [HN2.out] <;> rfl, hbel⟩
                case measure => simp [intOf] <;> omega
              · have g2 : decide (x.last < y.last) = false := decide_eq_false hl1
                by_cases hl2 : x.last = y.last
                · have g3 : (x.last == y.last) = true := by rw [beq_iff_eq]; exact hl2
                  cases hlb : Op.bytesLess x.id.toList y.id.toList with
                  | true =>
                    have HLB := Lib.hid hlb
                    have HN2 := Lib.hid (HN.out.trans (show _ = some k by rw [show lessC x y = true by unfold lessC; rw [g2, g3, HLB.out]; rfl] <;> rfl))
                    go_upto_region 6 with (first | (go_at_call 29; (with_reducible refine (C8.out _ hbel).mono ?_); rintro e w8 ⟨rfl, hb_⟩; have hbz := belStep hbel hb_; clear hbel; have hbel := hbz; clear hbz hb_) | (go_at_call 29; (with_reducible refine (C9.out _ hbel).mono ?_); rintro e w9 ⟨rfl, hb_⟩; have hbz := belStep hbel hb_; clear hbel; have hbel := hbz; clear hbz hb_))
                    have hw : Below w.heap.size w w := Below.refl _ _
                    have kk := fun d os => belStep hbel (below_regrown _ d os)
                    refine wp_region_quiet_below (by kernel_rfl) (by kernel_rfl) ?_
                    repeat ((with_reducible refine wpQuiet_step (fun K hK => ?_)); go_simp; (try (rw [if_neg]; rotate_left; · decide)); first | ((with_reducible refine hK _ ?_); clear hK K) | (apply Exists.intro; refine ⟨fun _ => ?_, hK _ ?_⟩; (fail); clear hK K))
                    refine wpQuiet_nil (fun w1 hw1 => ?_)
                    replace hbel := belStep hbel (bel_of_class hw1)
                    clear hw1 kk
                    go_wp2
                    go_roundw
                    case rel => exact ⟨k + 1, by omega, by push_cast; rfl, by rw [HN2.out] <;> rfl, hbel⟩
                    case measure => simp [intOf] <;> omega
                  | false =>
                    have HLB := Lib.hid hlb
                    have HN2 := Lib.hid (HN.out.trans (show _ = some p by rw [show lessC x y = false by unfold lessC; rw [g2, g3, HLB.out]; rfl] <;> rfl))
                    go_upto_region 6 with (first | (go_at_call 29; (with_reducible refine (C8.out _ hbel).mono ?_); rintro e w8 ⟨rfl, hb_⟩; have hbz := belStep hbel hb_; clear hbel; have hbel := hbz; clear hbz hb_) | (go_at_call 29; (with_reducible refine (C9.out _ hbel).mono ?_); rintro e w9 ⟨rfl, hb_⟩; have hbz := belStep hbel hb_; clear hbel; have hbel := hbz; clear hbz hb_))
                    have hw : Below w.heap.size w w := Below.refl _ _
                    have kk := fun d os => belStep hbel (below_regrown _ d os)
                    refine wp_region_quiet_below (by kernel_rfl) (by kernel_rfl) ?_
                    repeat ((with_reducible refine wpQuiet_step (fun K hK => ?_)); go_simp; (try (rw [if_neg]; rotate_left; · decide)); first | ((with_reducible refine hK _ ?_); clear hK K) | (apply Exists.intro; refine ⟨fun _ => ?_, hK _ ?_⟩; (fail); clear hK K))
                    refine wpQuiet_nil (fun w1 hw1 => ?_)
                    replace hbel := belStep hbel (bel_of_class hw1)
                    clear hw1 kk
                    go_wp2
                    go_roundw
                    case rel => exact ⟨k + 1, by omega, by push_cast; rfl, by rw [HN2.out] <;> rfl, hbel⟩
                    case measure => simp [intOf] <;> omega
                · have g3 : (x.last == y.last) = false := by rw [beq_eq_false_iff_ne]; exact hl2
                  have HN2 := Lib.hid (HN.out.trans (show _ = some p by rw [show lessC x y = false by unfold lessC; rw [g2, g3]; rfl] <;> rfl))
                  go_upto_region 6 with (first | (go_at_call 29; (with_reducible refine (C8.out _ hbel).mono ?_); rintro e w8 ⟨rfl, hb_⟩; have hbz := belStep hbel hb_; clear hbel; have hbel := hbz; clear hbz hb_) | (go_at_call 29; (with_reducible refine (C9.out _ hbel).mono ?_); rintro e w9 ⟨rfl, hb_⟩; have hbz := belStep hbel hb_; clear hbel; have hbel := hbz; clear hbz hb_))
                  have hw : Below w.heap.size w w := Below.refl _ _
                  have kk := fun d os => belStep hbel (below_regrown _ d os)
                  refine wp_region_quiet_below (by kernel_rfl) (by kernel_rfl) ?_
                  repeat ((with_reducible refine wpQuiet_step (fun K hK => ?_)); go_simp; (try (rw [if_neg]; rotate_left; · decide)); first | ((with_reducible refine hK _ ?_); clear hK K) | (apply Exists.intro; refine ⟨fun _ => ?_, hK _ ?_⟩; (fail); clear hK K))
                  refine wpQuiet_nil (fun w1 hw1 => ?_)
                  replace hbel := belStep hbel (bel_of_class hw1)
                  clear hw1 kk
                  go_wp2
                  go_roundw
                  case rel => exact ⟨k + 1, by omega, by push_cast; rfl, by rw [HN2.out] <;> rfl, hbel⟩
                  case measure => simp [intOf] <;> omega
    · obtain rfl : k = L.length := by omega
      have hd : decide ((L.length : Int) < (L.length : Int)) = false := decide_eq_false (by omega)
      go_wp2
      go_ret
      exact ⟨rfl, hbel⟩
end Go.Proofs.Ytampkolkbjmmkaa
