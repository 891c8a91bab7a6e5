
/- SweepOldest holds for all its arguments. No conditions. -/
import Derived.Test.YtampkolkbjmmkaaAwake22
namespace Go.Proofs.Ytampkolkbjmmkaa.sweepOldest
open Go.ChangeShapes Go.WideShapes Go.ChangeAt Go.RowKit
open Go.ChangeMaps (open_string shut_string)
set_option linter.unusedVariables false
set_option linter.unusedSimpArgs false
open Go.Sort
theorem order_mem (L : List ImgV) (U : List ByteArray) (x : ImgV) : x ∈ orderI L U ↔ x ∈ L ∧ freeI U x = true := by
  unfold orderI
  rw [sortBy_mem, List.mem_filter]
theorem order_pw (L : List ImgV) (U : List ByteArray) {i j : Nat} {x y : ImgV} (hij : i < j) (hx : (orderI L U)[i]? = some x) (hy : (orderI L U)[j]? = some y) : ltOf cfI y x = false := by
  have h := sortBy_pw swo_cfI (L.filter (freeI U))
  obtain ⟨h1, e1⟩ := List.getElem?_eq_some_iff.1 hx
  obtain ⟨h2, e2⟩ := List.getElem?_eq_some_iff.1 hy
  have := List.pairwise_iff_getElem.1 h i j h1 h2 hij
  unfold orderI at e1 e2
  rw [e1, e2] at this
  simpa using this
/-- Where all goes well: so many go, in their order, that what is free is enough. -/
def sumsS (O : List ImgV) (f : Int) : Int := O.foldl (fun m x => satAdd m x.size) f
theorem coll_pre (need : Int) : ∀ (l : List ImgV) (i : Nat) (g : List ByteArray) (f : Int), ∃ p, p ≤ l.length ∧ (collR need [] l i g f).went = g ++ (l.take p).map ImgV.name ∧ (collR need [] l i g f).asked = i + p ∧ (collR need [] l i g f).free = sumsS (l.take p) f ∧ (need ≤ sumsS (l.take p) f ∨ p = l.length) ∧ ∀ q, q < p → ¬ need ≤ sumsS (l.take q) f
  | [], i, g, f => ⟨0, Nat.le_refl _, by simp [collR], rfl, rfl, .inr rfl, fun q hq => absurd hq (Nat.not_lt_zero _)⟩
  | x :: l, i, g, f => by
    by_cases h : need ≤ f
    · rw [coll_stop h]
      exact ⟨0, Nat.zero_le _, by simp, rfl, rfl, .inl h, fun q hq => absurd hq (Nat.not_lt_zero _)⟩
    · rw [coll_goes h rfl]
      obtain ⟨p, h1, h2, h3, h4, h5, h6⟩ := coll_pre need l (i + 1) (g ++ [x.name]) (satAdd f x.size)
      refine ⟨p + 1, by simp only [List.length_cons]; omega, ?_, by rw [h3]; omega, by rw [h4]; rfl, ?_, ?_⟩
      · rw [h2, List.take_succ_cons, List.map_cons, List.append_assoc]; rfl
      · rcases h5 with h5 | h5
        · exact .inl h5
        · exact .inr (by rw [h5, List.length_cons])
      · intro q hq
        cases q with
        | zero => exact h
        | succ q => exact h6 q (by omega)
theorem lo_ofI {L : List ImgV} (h : Rises L) {k : Nat} {x : ImgV} (hx : L[k]? = some x) : thereB (L.take k) x.name = false := by
  unfold thereB
  rw [List.any_eq_false]
  intro y hy
  obtain ⟨j, hj⟩ := List.getElem?_of_mem hy
  have hjk : j < k := by
    rcases Nat.lt_or_ge j k with q | q
    · exact q
    · rw [List.getElem?_eq_none (by rw [List.length_take]; omega)] at hj; cases hj
  rw [List.getElem?_take_of_lt hjk] at hj
  have h3 := h.lt hj hx hjk
  simp only [beq_iff_eq]
  intro e
  rw [e] at h3
  exact List.lt_irrefl _ h3
theorem name_same {L : List ImgV} (h : Rises L) {x y : ImgV} (hx : x ∈ L) (hy : y ∈ L) (e : x.name.toList = y.name.toList) : x = y := by
  obtain ⟨i, hi⟩ := List.getElem?_of_mem hx
  obtain ⟨j, hj⟩ := List.getElem?_of_mem hy
  rcases Nat.lt_trichotomy i j with q | q | q
  · have h3 := h.lt hi hj q; rw [e] at h3; exact absurd h3 (List.lt_irrefl _)
  · subst q; exact Option.some.inj (hi.symm.trans hj)
  · have h3 := h.lt hj hi q; rw [e] at h3; exact absurd h3 (List.lt_irrefl _)
theorem placed {L : List ImgV} (h : Rises L) {x : ImgV} (hx : x ∈ L) : ∃ k : Nat, L[k]? = some x ∧ placeR L x.name = (k : Int) := by
  obtain ⟨k, hk⟩ := List.getElem?_of_mem hx
  exact ⟨k, hk, placeR_at hk (by simp) (lo_ofI h hk)⟩
/-- One that isn't used and stays was not used ahead of one that goes. -/
theorem stays_later {L : List ImgV} {U : List ByteArray} (h : Rises L) {p i : Nat} {y z : ImgV} (hi : i < p) (hy : (orderI L U)[i]? = some y) (hz : z ∈ L) (hu : hasU U z.name = false) (hg : hasU (((orderI L U).take p).map ImgV.name) z.name = false) : ¬ z.last < y.last := by
  have hzo : z ∈ orderI L U := (order_mem L U z).2 ⟨hz, by unfold freeI; rw [hu]; rfl⟩
  obtain ⟨q, hq⟩ := List.getElem?_of_mem hzo
  have hpq : p ≤ q := by
    rcases Nat.lt_or_ge q p with r | r
    · exfalso
      have : hasU (((orderI L U).take p).map ImgV.name) z.name = true := by
        unfold hasU
        rw [List.any_map, List.any_eq_true]
        exact ⟨z, List.mem_of_getElem? (i := q) (by rw [List.getElem?_take_of_lt r]; exact hq), by simp⟩
      rw [hg] at this; cases this
    · exact r
  have h1 := order_pw L U (i := i) (j := q) (by omega) hy hq
  intro hl
  rw [ah_1 (by omega), decide_eq_true hl] at h1
  cases h1
set_option maxRecDepth 100000 in
set_option maxHeartbeats 16000000 in
theorem walk (a : Option Addr) (n c : Nat) (L : List ImgV) (b : Option Addr) (ul uc : Nat) (U : List ByteArray) (need : Int) (w : World) (hl : L.length = n) (hok : ∀ x ∈ L, x.ok) (hR : Row w a n c 3 (L.flatMap ImgV.cells)) (hu : U.length = ul) (huk : ∀ s ∈ U, s.size ≤ maxLen) (hRU : Row w b ul uc 1 (U.map Value.string)) (hneed : InI need) :
    Calls Try.prog 8 #[.slice a n c, .slice b ul uc, .int .i64 need] w fun e w' => e = .returned (.bool true) ∧ Below w.heap.size w w' := by
  have hw : Below w.heap.size w w := Below.refl _ _
  have hbel := hw
  have hbd : n ≤ c ∧ c ≤ 9223372036854775807 := by obtain ⟨_, h1, h2, _⟩ := hR; unfold maxLen at h2; exact ⟨h1, h2⟩
  obtain ⟨hbd1, hbd2⟩ := hbd
  obtain ⟨fw, hfw⟩ : ∃ q, fewI L = q := ⟨_, rfl⟩
  have CFW := Lib.hid (fun u (hu : Below w.heap.size w u) => hfw ▸ iref_Few a n c L u hl (hR.later hu) hok)
  have HFW := Lib.hid hfw
  obtain ⟨rt, hrt⟩ : ∃ q, rightI L = q := ⟨_, rfl⟩
  have CRT := Lib.hid (fun u (hu : Below w.heap.size w u) => hrt ▸ iref_Right a n c L u hl (hR.later hu))
  have HRT := Lib.hid hrt
  clear hrt
  have HR := Lib.hid hR
  have HOK := Lib.hid hok
  have HLN := Lib.hid hl
  clear hR hok hl hfw
  have hbu : ul ≤ uc ∧ uc ≤ 9223372036854775807 := by obtain ⟨_, h1, h2, _⟩ := hRU; unfold maxLen at h2; exact ⟨h1, h2⟩
  obtain ⟨hbu1, hbu2⟩ := hbu
  obtain ⟨fu, hfu⟩ : ∃ q, fewT U = q := ⟨_, rfl⟩
  have CFU := Lib.hid (fun u (hu9 : Below w.heap.size w u) => hfu ▸ iref_Names b ul uc U u hu (hRU.later hu9) huk)
  have HFU := Lib.hid hfu
  have HUK := Lib.hid huk
  have HRU := Lib.hid hRU
  have HUN := Lib.hid hu
  clear hRU huk hu hfu
  go_enter Try.func8, Try.ntmps8
  go_upto_region 3 with (first | (go_at_call 19; (with_reducible refine (awake22 _).mono ?_); rintro e w1 ⟨rfl, hb1⟩; replace hbel := belStep hbel hb1; clear hb1) | (go_at_call 31; (with_reducible refine (CFW.out _ hbel).mono ?_); rintro e wf1 ⟨rfl, hb_wf1⟩; replace hbel := belStep hbel hb_wf1; clear hb_wf1; rcases fw with _ | _) | (go_at_call 21; (with_reducible refine (CFU.out _ hbel).mono ?_); rintro e wf3 ⟨rfl, hb_wf3⟩; replace hbel := belStep hbel hb_wf3; clear hb_wf3; rcases fu with _ | _) | (go_at_call 32; (with_reducible refine (CRT.out _ hbel).mono ?_); rintro e wf2 ⟨rfl, hb_wf2⟩; replace hbel := belStep hbel hb_wf2; clear hb_wf2; rcases rt with _ | _))
  · go_ret
    exact ⟨rfl, hbel⟩
  · go_ret
    exact ⟨rfl, hbel⟩
  · go_ret
    exact ⟨rfl, hbel⟩
  have HB := Lib.hid hbel
  have HRI := Lib.hid (right_rises HRT.out)
  have HNM := Lib.hid (right_nums HRT.out)
  have hn60 : n ≤ 60 := by rw [← HLN.out]; exact few_len HFW.out
  have hu60 : ul ≤ 60 := by rw [← HUN.out]; exact few_lenT HFU.out
  clear hw CFW CRT CFU
  have hcp := coll_pre need (orderI L U) 0 [] 0
  obtain ⟨p, hp1, hp2, hp3, hp4, hp5, hp6⟩ := hcp
  rw [List.nil_append] at hp2
  rw [Nat.zero_add] at hp3
  have hol := order_le L U
  rw [HLN.out] at hol
  have HST := Lib.hid (fun i y z hi hy hz hu hg => stays_later (U := U) HRI.out (p := p) (i := i) (y := y) (z := z) hi hy hz hu hg)
  have HOM := Lib.hid (fun x => order_mem L U x)
  have HPL := Lib.hid (fun x hx => placed HRI.out (x := x) hx)
  have CC := Lib.hid (fun u (hu : Below w.heap.size w u) => sw_Collect a n c L b ul uc U need none 0 0 [] u HLN.out (HR.out.later hu) HRI.out HUN.out (HRU.out.later hu) rfl row_nil HOK.out (by omega))
  unfold collF at CC
  have hnz : need ≤ 0 → p = 0 := fun h => by rcases Nat.eq_zero_or_pos p with q | q; exact q; exact absurd h (hp6 0 q)
  rw [hp2, hp3, hp4] at CC
  obtain ⟨fr, hfr⟩ : ∃ q, sumsS ((orderI L U).take p) 0 = q := ⟨_, rfl⟩
  rw [hfr] at CC
  clear hp2 hp3 hp4 hp5 hp6 hfr
  obtain ⟨O, hO⟩ : ∃ O, orderI L U = O := ⟨_, rfl⟩
  simp only [hO] at CC HST HOM hp1 hol
  clear hO
  have hGl : ((O.take p).map ImgV.name).length = p := by rw [List.length_map, List.length_take]; omega
  have HGA := Lib.hid (fun i (hi : i < p) => (by obtain ⟨y, hy⟩ : ∃ y, O[i]? = some y := ⟨O[i], List.getElem?_eq_getElem (by omega)⟩; exact ⟨y, hy, by rw [List.getElem?_map, List.getElem?_take_of_lt hi, hy]; rfl⟩ : ∃ y, O[i]? = some y ∧ ((O.take p).map ImgV.name)[i]? = some y.name))
  obtain ⟨G, hG⟩ : ∃ G, (O.take p).map ImgV.name = G := ⟨_, rfl⟩
  simp only [hG] at CC HST HGA hGl
  clear hG
  have HGL := Lib.hid hGl
  clear hGl
  have hg60 : G.length ≤ 60 := by rw [HGL.out]; omega
  have HNZ := Lib.hid hnz
  clear hnz
  clear hbel
  go_upto_region 4 with (go_at_call 33; (with_reducible refine (CC.out _ HB.out).mono ?_); rintro e w1 ⟨v1, rfl, ho_, hb_⟩; obtain ⟨ga, gc, rfl, hr_⟩ := rowR_of_own ho_; have HG := Lib.hid hr_; clear ho_ hr_; replace HB := Lib.hid (belStep HB.out hb_); clear hb_)
  clear CC
  have hb0 : Below w1.heap.size w1 w1 := Below.refl _ _
  generalize w1 = W3 at *
  have hbg : G.length ≤ gc ∧ gc ≤ 9223372036854775807 := by obtain ⟨_, h1, h2, _⟩ := HG.out; unfold maxLen at h2; exact ⟨h1, h2⟩
  obtain ⟨hbg1, hbg2⟩ := hbg
  go_wp2
  go_loopw [10] (fun iv wr => ∃ i : Nat, i ≤ G.length ∧ iv = .int .i64 i ∧ Below W3.heap.size W3 wr) (fun iv _ => G.length - (intOf iv).toNat)
  case atStart => exact ⟨0, Nat.zero_le _, rfl, hb0⟩
  case round =>
    clear hb0
    obtain ⟨i, hi, rfl, hbel⟩ := hrel
    by_cases hlt : i < G.length
    · have hd : decide ((i : Int) < (G.length : Int)) = true := decide_eq_true (by omega)
      have hii : (i : Int) < (G.length : Int) := by omega
      have hi0 : (0 : Int) ≤ (i : Int) := by omega
      have hip : i < p := by rw [← HGL.out]; exact hlt
      obtain ⟨y, hy, hyn⟩ := HGA.out i hip
      obtain ⟨k, hk, hkp⟩ := HPL.out y ((HOM.out y).1 (List.mem_of_getElem? hy)).1
      obtain ⟨b1, o1, e1, k1⟩ := text_cell HG.out hyn
      subst e1
      have y0 := keep k1
      clear k1 hyn
      have CP := Lib.hid (fun u (hu : Below W3.heap.size W3 u) => hkp ▸ iref_Place a n c L y.name u HLN.out (HR.out.later (belStep HB.out hu)))
      clear hkp
      have HY := Lib.hid hy
      have HK := Lib.hid hk
      have hkn : k < n := by rw [← HLN.out]; exact (List.getElem?_eq_some_iff.1 hk).1
      have hki : (k : Int) < (n : Int) := by omega
      have hk0 : (0 : Int) ≤ (k : Int) := by omega
      have hd0 : decide ((k : Int) < 0) = false := decide_eq_false (by omega)
      have hd1 : ¬ (k : Int) < 0 := by omega
      clear hy hk
      go_wp2_with (go_at_call 35; (with_reducible refine (CP.out _ hbel).mono ?_); rintro e w4 ⟨rfl, hb_⟩; have hbz := belStep hbel hb_; clear hbel; have hbel := hbz; clear hbz hb_)
      clear CP y0
      have HB5 := Lib.hid hbel
      clear hbel
      have hb5 : Below w4.heap.size w4 w4 := Below.refl _ _
      generalize w4 = W5 at *
      go_loopw [12] (fun jv wr => ∃ j : Nat, j ≤ n ∧ jv = .int .i64 j ∧ Below W5.heap.size W5 wr) (fun jv _ => n - (intOf jv).toNat)
      case atStart => exact ⟨0, Nat.zero_le _, rfl, hb5⟩
      case round =>
        clear hb5
        obtain ⟨j, hj, rfl, hbr⟩ := hrel
        by_cases hlj : j < n
        · have hd : decide ((j : Int) < (n : Int)) = true := decide_eq_true (by omega)
          have hji : (j : Int) < (n : Int) := by omega
          have hj0 : (0 : Int) ≤ (j : Int) := by omega
          obtain ⟨z, hz⟩ : ∃ z, L[j]? = some z := ⟨L[j]'(by rw [HLN.out]; exact hlj), List.getElem?_eq_getElem _⟩
          have HRW := Lib.hid (HR.out.later (belStep HB.out (belStep HB5.out hbr)))
          have HBR := Lib.hid hbr
          clear hbr
          obtain ⟨bc, oc, ec, _, hcc⟩ := (HRW.out).elem ImgV.cells_len (by omega) hz
          subst ec
          have c0 := keep (hcc 0 _ rfl)
          have c1 := keep (hcc 1 _ rfl)
          have c2 := keep (hcc 2 _ rfl)
          rw [Nat.add_zero] at c0
          obtain ⟨be, oe, ee, _, hce⟩ := (HRW.out).elem ImgV.cells_len (by omega) HK.out
          simp only [Option.some.injEq, Addr.mk.injEq, and_true] at ee
          obtain ⟨rfl, rfl⟩ := ee
          have e2 := keep (hce 2 _ rfl)
          have hzm := List.mem_of_getElem? hz
          have HS := Lib.hid (fun hu hg => HST.out i y z hip HY.out hzm hu hg)
          have hbel : Below wr.heap.size wr wr := Below.refl _ _
          clear hz hcc hce hzm
          have C1 := Lib.hid (fun u (hu : Below wr.heap.size wr u) => iref_Has b ul uc U z.name u HUN.out (HRU.out.later (belStep HB.out (belStep HB5.out (belStep HBR.out hu)))))
          have C2 := Lib.hid (fun u (hu : Below wr.heap.size wr u) => iref_Has _ G.length gc G z.name u rfl (HG.out.later (belStep HB5.out (belStep HBR.out hu))))
          obtain ⟨h1, hh1⟩ : ∃ q, hasU U z.name = q := ⟨_, rfl⟩
          rw [hh1] at C1 HS
          clear hh1
          obtain ⟨h2, hh2⟩ : ∃ q, hasU G z.name = q := ⟨_, rfl⟩
          rw [hh2] at C2 HS
          clear hh2
          go_upto_region 13 with fail
          cases h1 with
          | true =>
            have kk := fun d os => belStep hbel (below_regrown _ d os)
            refine wp_region_quiet_below (by kernel_rfl) (by kernel_rfl) ?_
            repeat ((with_reducible refine wpQuiet_step (fun K hK => ?_)); go_simp; (try (rw [if_neg]; rotate_left; · decide)); first | ((with_reducible refine hK _ ?_); clear hK K) | (apply Exists.intro; refine ⟨fun _ => ?_, hK _ ?_⟩; (first | (go_at_call 29; with_reducible exact Calls.regrown_of (C1.out _ (kk _ _))) | (go_at_call 29; with_reducible exact Calls.regrown_of (C2.out _ (kk _ _)))); clear hK K))
            refine wpQuiet_nil (fun w1 hw1 => ?_)
            replace hbel := belStep hbel (bel_of_class hw1)
            clear hw1 kk
            go_wp2
            go_roundw
            case rel => exact ⟨j + 1, by omega, by push_cast; rfl, belStep HBR.out hbel⟩
            case measure => simp [intOf] <;> omega
          | false =>
            cases h2 with
            | true =>
              have kk := fun d os => belStep hbel (below_regrown _ d os)
              refine wp_region_quiet_below (by kernel_rfl) (by kernel_rfl) ?_
              repeat ((with_reducible refine wpQuiet_step (fun K hK => ?_)); go_simp; (try (rw [if_neg]; rotate_left; · decide)); first | ((with_reducible refine hK _ ?_); clear hK K) | (apply Exists.intro; refine ⟨fun _ => ?_, hK _ ?_⟩; (first | (go_at_call 29; with_reducible exact Calls.regrown_of (C1.out _ (kk _ _))) | (go_at_call 29; with_reducible exact Calls.regrown_of (C2.out _ (kk _ _)))); clear hK K))
              refine wpQuiet_nil (fun w1 hw1 => ?_)
              replace hbel := belStep hbel (bel_of_class hw1)
              clear hw1 kk
              go_wp2
              go_roundw
              case rel => exact ⟨j + 1, by omega, by push_cast; rfl, belStep HBR.out hbel⟩
              case measure => simp [intOf] <;> omega
            | false =>
              have hdn : decide (z.last < y.last) = false := decide_eq_false (by have := HS.out rfl rfl; omega)
              have kk := fun d os => belStep hbel (below_regrown _ d os)
              refine wp_region_quiet_below (by kernel_rfl) (by kernel_rfl) ?_
              repeat ((with_reducible refine wpQuiet_step (fun K hK => ?_)); go_simp; (try (rw [if_neg]; rotate_left; · decide)); first | ((with_reducible refine hK _ ?_); clear hK K) | (apply Exists.intro; refine ⟨fun _ => ?_, hK _ ?_⟩; (first | (go_at_call 29; with_reducible exact Calls.regrown_of (C1.out _ (kk _ _))) | (go_at_call 29; with_reducible exact Calls.regrown_of (C2.out _ (kk _ _)))); clear hK K))
              refine wpQuiet_nil (fun w1 hw1 => ?_)
              replace hbel := belStep hbel (bel_of_class hw1)
              clear hw1 kk
              go_wp2
              go_roundw
              case rel => exact ⟨j + 1, by omega, by push_cast; rfl, belStep HBR.out hbel⟩
              case measure => simp [intOf] <;> omega
        · obtain rfl : j = n := by omega
          have hd : decide ((j : Int) < (j : Int)) = false := decide_eq_false (by omega)
          go_wp2
          go_roundw
          case rel => exact ⟨i + 1, by omega, by push_cast; rfl, belStep HB5.out hbr⟩
          case measure => simp [intOf] <;> omega
    · obtain rfl : i = G.length := by omega
      have hd : decide ((G.length : Int) < (G.length : Int)) = false := decide_eq_false (by omega)
      by_cases hn0 : 0 < need
      · have t1 : decide (0 < need) = true := decide_eq_true hn0
        go_wp2
        go_ret
        exact ⟨by first | rfl | simp, belStep HB.out hbel⟩
      · have t1 : decide (0 < need) = false := decide_eq_false hn0
        have hg0 : G.length = 0 := by rw [HGL.out]; exact HNZ.out (by omega)
        have hG0 : G = [] := List.eq_nil_of_length_eq_zero hg0
        clear hg0
        subst hG0
        go_wp2
        go_ret
        exact ⟨by first | rfl | simp, belStep HB.out hbel⟩

set_option maxRecDepth 100000 in
theorem lifted (os : Os) (started : os.Started) (H : Type) (enc : TypeId × Value → H) :
    ReturnsInHanded {} Try.checked os 8 .any (Rows.sweepOldestSpec.pre6 enc Try.prog Try.f8 Rows.sweepOldestRow.domain false) (Rows.sweepOldestSpec.post enc Try.prog Try.f8 false true false false) := by
  refine returnsInHanded_of_change (C := Try.checked) own started (by kernel_rfl) Try.func8
    (ChangeSpec.witness6 (enc := enc) (C := Try.checked) false ⟨#[], #[.slice none 0 0, .slice none 0 0, .int .i64 0], []⟩ 8 (by kernel_rfl) (by kernel_rfl) (by kernel_rfl) (by kernel_rfl)) ?_
  intro W base args ds gs before hval0 hW hcnd _
  have hval : ∀ (j : Nat) t v, Try.f8.params[j]? = some t → args[j]? = some v → Value.okWide Try.prog W .any base t v := hval0
  have hW' := hW
  obtain ⟨p, q, hA0, hV, rfl, hfz, hnd⟩ := hW
  have hA : DataW.TrodAll enc Try.prog W 0 (fun _ => true) true Try.f8.params.toList args.toList ds p := hA0
  rw [Try.params8] at hA hval
  obtain ⟨v0, vs0, d0, ds0, p0, q0, hargs, rfl, rfl, h0, r0⟩ := trodAll_cons hA
  obtain ⟨v1, vs1, d1, ds1, p1, q1, rfl, rfl, rfl, h1, r1⟩ := trodAll_cons r0
  obtain ⟨v2, vs2, d2, ds2, p2, q2, rfl, rfl, rfl, h2, r2⟩ := trodAll_cons r1
  obtain ⟨rfl, rfl, rfl⟩ := trodAll_nil r2
  obtain rfl : args = #[v0, v1, v2] := by cases args; simp_all
  obtain ⟨rfl, rfl⟩ := trodVars_none hV
  have k0 := h0
  have lt0 : ∀ x ∈ p0, x.block < W.heap.size := by obtain ⟨m, hm⟩ := k0; exact DataW.trod_lt m _ _ _ hm
  have o0 : Value.okWide Try.prog W .any base 39 v0 := hval 0 39 v0 rfl rfl
  obtain ⟨xa0, xn0, xc0, xl0, rfl, fl0, fo0, fr0⟩ := open_imgs o0 h0
  have k1 := h1
  have lt1 : ∀ x ∈ p1, x.block < W.heap.size := by obtain ⟨m, hm⟩ := k1; exact DataW.trod_lt m _ _ _ hm
  have o1 : Value.okWide Try.prog W .any base 23 v1 := hval 1 23 v1 rfl rfl
  obtain ⟨ya1, yn1, yc1, yu1, rfl, gl1, go1, gr1⟩ := open_texts o1 h1
  have k2 := h2
  have lt2 : ∀ x ∈ p2, x.block < W.heap.size := by obtain ⟨m, hm⟩ := k2; exact DataW.trod_lt m _ _ _ hm
  have o2 : Value.okWide Try.prog W .any base 3 v2 := hval 2 3 v2 rfl rfl
  obtain ⟨a2, rfl, rfl, rfl, w2⟩ := open_int Try.underlying3 o2 h2
  clear hA0 hval0
  refine (walk xa0 xn0 xc0 xl0 ya1 yn1 yc1 yu1 a2 W fl0 fo0 fr0 gl1 go1 gr1 (inI_of_wf w2)).mono fun e W' ⟨he, bel⟩ => ?_
  subst he
  exact ⟨_, rfl, _, _, _, [], _, [], hW', trodAll_mk1 (shut_bool Try.underlying4 _), (trodAll_cons_mk (Below.trod laidOut (by kernel_rfl) (of_decide_eq_true (by kernel_rfl)) k0 bel lt0) (trodAll_cons_mk (Below.trod laidOut (by kernel_rfl) (of_decide_eq_true (by kernel_rfl)) k1 bel lt1) (trodAll_cons_mk (Below.trod laidOut (by kernel_rfl) (of_decide_eq_true (by kernel_rfl)) k2 bel lt2) trodAll_mk0))), rfl, bel.frame _, fun h => by cases h⟩

theorem over : Rows.sweepOldestRow.holds Try.pinned (OpenSpec.ofChange Rows.sweepOldestSpec) :=
  OpenClaim.holds_of_wide 8 Try.f8 rfl rfl rfl rfl rfl rfl rfl ⟨rfl, rfl, rfl, rfl, rfl⟩ rfl rfl rfl rfl rfl (by kernel_rfl) Try.func8 (by kernel_rfl)
    (of_decide_eq_true (by kernel_rfl)) (by unfold Func.isWrapper; first | (rw [if_pos (by decide +kernel)]; kernel_rfl) | (rw [if_neg (by decide +kernel)]; exact ⟨rfl, rfl⟩))
    (fun os started H enc _ => lifted os started H enc)

/-- The statement. -/
theorem proved : Rows.SweepOldestSaid := over
#print axioms proved

end Go.Proofs.Ytampkolkbjmmkaa.sweepOldest
