
/- SweepLeast holds for all its arguments. No conditions. -/
import Derived.Test.YtampkolkbjmmkaaAwake22
namespace Go.Proofs.Ytampkolkbjmmkaa.sweepLeast
open Go.ChangeShapes Go.WideShapes Go.ChangeAt Go.RowKit
open Go.ChangeMaps (open_string shut_string)
set_option linter.unusedVariables false
set_option linter.unusedSimpArgs false
open Go.Sort
theorem order_mem (L : List ImgV) (U : List ByteArray) (x : ImgV) : x ∈ orderI L U ↔ x ∈ L ∧ freeI U x = true := by
  unfold orderI
  rw [sortBy_mem, List.mem_filter]
theorem order_pw (L : List ImgV) (U : List ByteArray) {i j : Nat} {x y : ImgV} (hij : i < j) (hx : (orderI L U)[i]? = some x) (hy : (orderI L U)[j]? = some y) : ltOf cfI y x = false := by
  have h := sortBy_pw swo_cfI (L.filter (freeI U))
  obtain ⟨h1, e1⟩ := List.getElem?_eq_some_iff.1 hx
  obtain ⟨h2, e2⟩ := List.getElem?_eq_some_iff.1 hy
  have := List.pairwise_iff_getElem.1 h i j h1 h2 hij
  unfold orderI at e1 e2
  rw [e1, e2] at this
  simpa using this
/-- Where all goes well: so many go, in their order, that what is free is enough. -/
def sumsS (O : List ImgV) (f : Int) : Int := O.foldl (fun m x => satAdd m x.size) f
theorem coll_pre (need : Int) : ∀ (l : List ImgV) (i : Nat) (g : List ByteArray) (f : Int), ∃ p, p ≤ l.length ∧ (collR need [] l i g f).went = g ++ (l.take p).map ImgV.name ∧ (collR need [] l i g f).asked = i + p ∧ (collR need [] l i g f).free = sumsS (l.take p) f ∧ (need ≤ sumsS (l.take p) f ∨ p = l.length) ∧ ∀ q, q < p → ¬ need ≤ sumsS (l.take q) f
  | [], i, g, f => ⟨0, Nat.le_refl _, by simp [collR], rfl, rfl, .inr rfl, fun q hq => absurd hq (Nat.not_lt_zero _)⟩
  | x :: l, i, g, f => by
    by_cases h : need ≤ f
    · rw [coll_stop h]
      exact ⟨0, Nat.zero_le _, by simp, rfl, rfl, .inl h, fun q hq => absurd hq (Nat.not_lt_zero _)⟩
    · rw [coll_goes h rfl]
      obtain ⟨p, h1, h2, h3, h4, h5, h6⟩ := coll_pre need l (i + 1) (g ++ [x.name]) (satAdd f x.size)
      refine ⟨p + 1, by simp only [List.length_cons]; omega, ?_, by rw [h3]; omega, by rw [h4]; rfl, ?_, ?_⟩
      · rw [h2, List.take_succ_cons, List.map_cons, List.append_assoc]; rfl
      · rcases h5 with h5 | h5
        · exact .inl h5
        · exact .inr (by rw [h5, List.length_cons])
      · intro q hq
        cases q with
        | zero => exact h
        | succ q => exact h6 q (by omega)
theorem lo_ofI {L : List ImgV} (h : Rises L) {k : Nat} {x : ImgV} (hx : L[k]? = some x) : thereB (L.take k) x.name = false := by
  unfold thereB
  rw [List.any_eq_false]
  intro y hy
  obtain ⟨j, hj⟩ := List.getElem?_of_mem hy
  have hjk : j < k := by
    rcases Nat.lt_or_ge j k with q | q
    · exact q
    · rw [List.getElem?_eq_none (by rw [List.length_take]; omega)] at hj; cases hj
  rw [List.getElem?_take_of_lt hjk] at hj
  have h3 := h.lt hj hx hjk
  simp only [beq_iff_eq]
  intro e
  rw [e] at h3
  exact List.lt_irrefl _ h3
theorem name_same {L : List ImgV} (h : Rises L) {x y : ImgV} (hx : x ∈ L) (hy : y ∈ L) (e : x.name.toList = y.name.toList) : x = y := by
  obtain ⟨i, hi⟩ := List.getElem?_of_mem hx
  obtain ⟨j, hj⟩ := List.getElem?_of_mem hy
  rcases Nat.lt_trichotomy i j with q | q | q
  · have h3 := h.lt hi hj q; rw [e] at h3; exact absurd h3 (List.lt_irrefl _)
  · subst q; exact Option.some.inj (hi.symm.trans hj)
  · have h3 := h.lt hj hi q; rw [e] at h3; exact absurd h3 (List.lt_irrefl _)
theorem placed {L : List ImgV} (h : Rises L) {x : ImgV} (hx : x ∈ L) : ∃ k : Nat, L[k]? = some x ∧ placeR L x.name = (k : Int) := by
  obtain ⟨k, hk⟩ := List.getElem?_of_mem hx
  exact ⟨k, hk, placeR_at hk (by simp) (lo_ofI h hk)⟩
/-- One that isn't used and stays was not used ahead of one that goes. -/
theorem stays_later {L : List ImgV} {U : List ByteArray} (h : Rises L) {p i : Nat} {y z : ImgV} (hi : i < p) (hy : (orderI L U)[i]? = some y) (hz : z ∈ L) (hu : hasU U z.name = false) (hg : hasU (((orderI L U).take p).map ImgV.name) z.name = false) : ¬ z.last < y.last := by
  have hzo : z ∈ orderI L U := (order_mem L U z).2 ⟨hz, by unfold freeI; rw [hu]; rfl⟩
  obtain ⟨q, hq⟩ := List.getElem?_of_mem hzo
  have hpq : p ≤ q := by
    rcases Nat.lt_or_ge q p with r | r
    · exfalso
      have : hasU (((orderI L U).take p).map ImgV.name) z.name = true := by
        unfold hasU
        rw [List.any_map, List.any_eq_true]
        exact ⟨z, List.mem_of_getElem? (i := q) (by rw [List.getElem?_take_of_lt r]; exact hq), by simp⟩
      rw [hg] at this; cases this
    · exact r
  have h1 := order_pw L U (i := i) (j := q) (by omega) hy hq
  intro hl
  rw [ah_1 (by omega), decide_eq_true hl] at h1
  cases h1
def sizT : List ImgV → Int
  | [] => 0
  | x :: l => x.size + sizT l
theorem sizT_app (l m : List ImgV) : sizT (l ++ m) = sizT l + sizT m := by
  induction l with
  | nil => simp [sizT]
  | cons x l ih => simp only [List.cons_append, sizT, ih]; omega
theorem sizT_next {l : List ImgV} {k : Nat} {x : ImgV} (h : l[k]? = some x) : sizT (l.take (k + 1)) = sizT (l.take k) + x.size := by
  rw [takeG_next h, sizT_app]; simp [sizT]
theorem sizT_bd {l : List ImgV} (h : ∀ x ∈ l, 0 ≤ x.size ∧ x.size ≤ 1000000000000) : 0 ≤ sizT l ∧ sizT l ≤ l.length * 1000000000000 := by
  induction l with
  | nil => simp [sizT]
  | cons x l ih =>
    have h1 := h x List.mem_cons_self
    have h2 := ih (fun y hy => h y (List.mem_cons_of_mem _ hy))
    simp only [sizT, List.length_cons]
    push_cast
    omega
theorem sums_eq : ∀ (l : List ImgV) (f : Int), (∀ x ∈ l, 0 ≤ x.size ∧ x.size ≤ 1000000000000) → 0 ≤ f → f + sizT l ≤ 9223372036854775807 → sumsS l f = f + sizT l
  | [], f, _, _, _ => by simp [sumsS, sizT]
  | x :: l, f, h, h0, hb => by
    have h1 := h x List.mem_cons_self
    have h2 := fun y hy => h y (List.mem_cons_of_mem x hy)
    have h3 := (sizT_bd h2).1
    have e : satAdd f x.size = f + x.size := by unfold satAdd; simp only [sizT] at hb; omega
    show sumsS l (satAdd f x.size) = _
    simp only [sizT] at hb ⊢
    rw [e, sums_eq l (f + x.size) h2 (by omega) (by omega)]
    omega
def szP (O : List ImgV) : Nat → Int
  | 0 => 0
  | j + 1 => match O[j]? with | some x => x.size | none => 0
theorem szP_next {O : List ImgV} {k : Nat} {x : ImgV} (h : O[k]? = some x) : szP O (k + 1) = x.size := by
  show (match O[k]? with | some x => x.size | none => 0) = x.size
  rw [h]
/-- Without the last one that went it wouldn't be enough. -/
theorem least_ok {O : List ImgV} {need : Int} {p : Nat} (hp : p ≤ O.length) (hs : ∀ x ∈ O, 0 ≤ x.size ∧ x.size ≤ 1000000000000) (hl : O.length ≤ 60) (h6 : ∀ q, q < p → ¬ need ≤ sumsS (O.take q) 0) : p = 0 ∨ (sizT (O.take p) - szP O p < need ∧ 0 ≤ szP O p ∧ szP O p ≤ 1000000000000) := by
  cases p with
  | zero => exact .inl rfl
  | succ q =>
    right
    obtain ⟨x, hx⟩ : ∃ x, O[q]? = some x := ⟨O[q], List.getElem?_eq_getElem (by omega)⟩
    have h1 := hs x (List.mem_of_getElem? hx)
    have h2 : ∀ y ∈ O.take q, 0 ≤ y.size ∧ y.size ≤ 1000000000000 := fun y hy => hs y (List.mem_of_mem_take hy)
    have h3 := sizT_bd h2
    have h4 : (O.take q).length ≤ 60 := by rw [List.length_take]; omega
    have h5 := h6 q (by omega)
    rw [sums_eq _ 0 h2 (by omega) (by omega)] at h5
    rw [szP_next hx, sizT_next hx]
    omega
set_option maxRecDepth 100000 in
set_option maxHeartbeats 16000000 in
theorem walk (a : Option Addr) (n c : Nat) (L : List ImgV) (b : Option Addr) (ul uc : Nat) (U : List ByteArray) (need : Int) (w : World) (hl : L.length = n) (hok : ∀ x ∈ L, x.ok) (hR : Row w a n c 3 (L.flatMap ImgV.cells)) (hu : U.length = ul) (huk : ∀ s ∈ U, s.size ≤ maxLen) (hRU : Row w b ul uc 1 (U.map Value.string)) (hneed : InI need) :
    Calls Try.prog 7 #[.slice a n c, .slice b ul uc, .int .i64 need] w fun e w' => e = .returned (.bool true) ∧ Below w.heap.size w w' := by
  have hw : Below w.heap.size w w := Below.refl _ _
  have hbel := hw
  have hbd : n ≤ c ∧ c ≤ 9223372036854775807 := by obtain ⟨_, h1, h2, _⟩ := hR; unfold maxLen at h2; exact ⟨h1, h2⟩
  obtain ⟨hbd1, hbd2⟩ := hbd
  obtain ⟨fw, hfw⟩ : ∃ q, fewI L = q := ⟨_, rfl⟩
  have CFW := Lib.hid (fun u (hu : Below w.heap.size w u) => hfw ▸ iref_Few a n c L u hl (hR.later hu) hok)
  have HFW := Lib.hid hfw
  obtain ⟨rt, hrt⟩ : ∃ q, rightI L = q := ⟨_, rfl⟩
  have CRT := Lib.hid (fun u (hu : Below w.heap.size w u) => hrt ▸ iref_Right a n c L u hl (hR.later hu))
  have HRT := Lib.hid hrt
  clear hrt
  have HR := Lib.hid hR
  have HOK := Lib.hid hok
  have HLN := Lib.hid hl
  clear hR hok hl hfw
  have hbu : ul ≤ uc ∧ uc ≤ 9223372036854775807 := by obtain ⟨_, h1, h2, _⟩ := hRU; unfold maxLen at h2; exact ⟨h1, h2⟩
  obtain ⟨hbu1, hbu2⟩ := hbu
  obtain ⟨fu, hfu⟩ : ∃ q, fewT U = q := ⟨_, rfl⟩
  have CFU := Lib.hid (fun u (hu9 : Below w.heap.size w u) => hfu ▸ iref_Names b ul uc U u hu (hRU.later hu9) huk)
  have HFU := Lib.hid hfu
  have HUK := Lib.hid huk
  have HRU := Lib.hid hRU
  have HUN := Lib.hid hu
  clear hRU huk hu hfu
  go_enter Try.func7, Try.ntmps7
  go_upto_region 3 with (first | (go_at_call 19; (with_reducible refine (awake22 _).mono ?_); rintro e w1 ⟨rfl, hb1⟩; replace hbel := belStep hbel hb1; clear hb1) | (go_at_call 31; (with_reducible refine (CFW.out _ hbel).mono ?_); rintro e wf1 ⟨rfl, hb_wf1⟩; replace hbel := belStep hbel hb_wf1; clear hb_wf1; rcases fw with _ | _) | (go_at_call 21; (with_reducible refine (CFU.out _ hbel).mono ?_); rintro e wf3 ⟨rfl, hb_wf3⟩; replace hbel := belStep hbel hb_wf3; clear hb_wf3; rcases fu with _ | _) | (go_at_call 32; (with_reducible refine (CRT.out _ hbel).mono ?_); rintro e wf2 ⟨rfl, hb_wf2⟩; replace hbel := belStep hbel hb_wf2; clear hb_wf2; rcases rt with _ | _))
  · go_ret
    exact ⟨rfl, hbel⟩
  · go_ret
    exact ⟨rfl, hbel⟩
  · go_ret
    exact ⟨rfl, hbel⟩
  have HB := Lib.hid hbel
  have HRI := Lib.hid (right_rises HRT.out)
  have HNM := Lib.hid (right_nums HRT.out)
  have hn60 : n ≤ 60 := by rw [← HLN.out]; exact few_len HFW.out
  have hu60 : ul ≤ 60 := by rw [← HUN.out]; exact few_lenT HFU.out
  clear hw CFW CRT CFU
  have hn9 : n ≤ 60 := hn60
  clear HB
  go_wp2
  go_loopw [7] (fun iv wr => ∃ k : Nat, k ≤ n ∧ iv = .int .i64 k ∧ Hid (∀ x ∈ L.take k, x.size ≤ 1000000000000) ∧ Below w.heap.size w wr) (fun iv _ => n - (intOf iv).toNat)
  case atStart => exact ⟨0, Nat.zero_le _, rfl, Lib.hid (fun x hx => by simp at hx), hbel⟩
  case round =>
    clear hbel
    obtain ⟨k, hk, rfl, HS, hbel⟩ := hrel
    by_cases hlt : k < n
    · have hd : decide ((k : Int) < (n : Int)) = true := decide_eq_true (by omega)
      have hki : (k : Int) < (n : Int) := by omega
      have hk0 : (0 : Int) ≤ (k : Int) := by omega
      obtain ⟨x, hx⟩ : ∃ x, L[k]? = some x := ⟨L[k]'(by rw [HLN.out]; exact hlt), List.getElem?_eq_getElem _⟩
      obtain ⟨bc, oc, ec, _, hcc⟩ := (HR.out).elem ImgV.cells_len (by omega) hx
      subst ec
      have c0 := keep (hcc 0 _ rfl)
      have c1 := keep (hcc 1 _ rfl)
      have c2 := keep (hcc 2 _ rfl)
      rw [Nat.add_zero] at c0
      have HX := Lib.hid hx
      clear hx hcc
      by_cases hg : 1000000000000 < x.size
      · have t1 : decide (1000000000000 < x.size) = true := decide_eq_true hg
        go_wp2
        go_ret
        exact ⟨rfl, hbel⟩
      · have t1 : decide (1000000000000 < x.size) = false := decide_eq_false hg
        have HS2 := Lib.hid (show ∀ y ∈ L.take (k + 1), y.size ≤ 1000000000000 from fun y hy => by rw [takeG_next HX.out] at hy; rcases List.mem_append.1 hy with q | q; exact HS.out y q; simp only [List.mem_singleton] at q; subst q; omega)
        go_wp2
        go_roundw
        case rel => exact ⟨k + 1, by omega, by push_cast; rfl, HS2, hbel⟩
        case measure => simp [intOf] <;> omega
    · obtain rfl : k = n := by omega
      have hd : decide ((k : Int) < (k : Int)) = false := decide_eq_false (by omega)
      have HB := Lib.hid hbel
      have hsz : ∀ x ∈ L, 0 ≤ x.size ∧ x.size ≤ 1000000000000 := fun x hx => ⟨(HNM.out x hx).1, HS.out x (by rw [List.take_of_length_le (by rw [HLN.out]; exact Nat.le_refl _)]; exact hx)⟩
      have hcp := coll_pre need (orderI L U) 0 [] 0
      obtain ⟨p, hp1, hp2, hp3, hp4, hp5, hp6⟩ := hcp
      rw [List.nil_append] at hp2
      rw [Nat.zero_add] at hp3
      have hol := order_le L U
      rw [HLN.out] at hol
      have hso : ∀ x ∈ orderI L U, 0 ≤ x.size ∧ x.size ≤ 1000000000000 := fun x hx => hsz x ((order_mem L U x).1 hx).1
      have hst : ∀ x ∈ (orderI L U).take p, 0 ≤ x.size ∧ x.size ≤ 1000000000000 := fun x hx => hso x (List.mem_of_mem_take hx)
      have hbt := sizT_bd hst
      have hlt2 : ((orderI L U).take p).length ≤ 60 := by rw [List.length_take]; omega
      have hse : sumsS ((orderI L U).take p) 0 = sizT ((orderI L U).take p) := by rw [sums_eq _ 0 hst (by omega) (by omega), Int.zero_add]
      have HLO := Lib.hid (least_ok hp1 hso (by omega) hp6)
      rw [hse] at hp4 hp5
      have hbs : 0 ≤ sizT ((orderI L U).take p) ∧ sizT ((orderI L U).take p) ≤ 60000000000000 := by omega
      have HSI := Lib.hid (fun i (hi : i ≤ 60) => (by have h := sizT_bd (l := (orderI L U).take i) (fun x hx => hso x (List.mem_of_mem_take hx)); have h2 : ((orderI L U).take i).length ≤ 60 := (by rw [List.length_take]; omega); omega : 0 ≤ sizT ((orderI L U).take i) ∧ sizT ((orderI L U).take i) ≤ 60000000000000))
      have HSO := Lib.hid hso
      have HOM := Lib.hid (fun x => order_mem L U x)
      have HPL := Lib.hid (fun x hx => placed HRI.out (x := x) hx)
      have HOL := Lib.hid (show (orderI L U).length = (L.filter (freeI U)).length by unfold orderI; rw [sortBy_len])
      have CC := Lib.hid (fun u (hu : Below w.heap.size w u) => sw_Collect a k c L b ul uc U need none 0 0 [] u HLN.out (HR.out.later hu) HRI.out HUN.out (HRU.out.later hu) rfl row_nil HOK.out (by omega))
      unfold collF at CC
      rw [hp2, hp3, hp4] at CC
      have hp5h := Lib.hid hp5
      clear hp2 hp3 hp4 hp5 hp6 hsz hso hst hbt hlt2 hse HS
      obtain ⟨O, hO⟩ : ∃ O, orderI L U = O := ⟨_, rfl⟩
      simp only [hO] at CC HLO HSI HSO HOM HOL hp1 hol hp5h hbs
      clear hO
      have hGl : ((O.take p).map ImgV.name).length = p := by rw [List.length_map, List.length_take]; omega
      have HGA := Lib.hid (fun i (hi : i < p) => (by obtain ⟨y, hy⟩ : ∃ y, O[i]? = some y := ⟨O[i], List.getElem?_eq_getElem (by omega)⟩; exact ⟨y, hy, by rw [List.getElem?_map, List.getElem?_take_of_lt hi, hy]; rfl⟩ : ∃ y, O[i]? = some y ∧ ((O.take p).map ImgV.name)[i]? = some y.name))
      obtain ⟨G, hG⟩ : ∃ G, (O.take p).map ImgV.name = G := ⟨_, rfl⟩
      simp only [hG] at CC HGA hGl
      clear hG
      have HGL := Lib.hid hGl
      clear hGl
      have hg60 : G.length ≤ 60 := by rw [HGL.out]; omega
      obtain ⟨S, hS⟩ : ∃ S, sizT (O.take p) = S := ⟨_, rfl⟩
      simp only [hS] at CC HLO hp5h hbs
      have HSS := Lib.hid hS
      clear hS hbel
      go_upto_region 9 with (go_at_call 33; (with_reducible refine (CC.out _ HB.out).mono ?_); rintro e w1 ⟨v1, rfl, ho_, hb_⟩; obtain ⟨ga, gc, rfl, hr_⟩ := rowR_of_own ho_; have HG := Lib.hid hr_; clear ho_ hr_; replace HB := Lib.hid (belStep HB.out hb_); clear hb_)
      clear CC
      have hb0 : Below w1.heap.size w1 w1 := Below.refl _ _
      generalize w1 = W3 at *
      have hbg : G.length ≤ gc ∧ gc ≤ 9223372036854775807 := by obtain ⟨_, h1, h2, _⟩ := HG.out; unfold maxLen at h2; exact ⟨h1, h2⟩
      obtain ⟨hbg1, hbg2⟩ := hbg
      go_wp2
      go_loopw [11, 12, 13] (fun sv zv iv wr => ∃ i : Nat, i ≤ G.length ∧ iv = .int .i64 i ∧ sv = .int .i64 (sizT (O.take i)) ∧ zv = .int .i64 (szP O i) ∧ Below W3.heap.size W3 wr) (fun _ _ iv _ => G.length - (intOf iv).toNat)
      case atStart => exact ⟨0, Nat.zero_le _, rfl, rfl, rfl, hb0⟩
      case round =>
        clear hb0
        obtain ⟨i, hi, rfl, rfl, rfl, hbel⟩ := hrel
        by_cases hlt : i < G.length
        · have hd : decide ((i : Int) < (G.length : Int)) = true := decide_eq_true (by omega)
          have hii : (i : Int) < (G.length : Int) := by omega
          have hi0 : (0 : Int) ≤ (i : Int) := by omega
          have hip : i < p := by rw [← HGL.out]; exact hlt
          obtain ⟨y, hy, hyn⟩ := HGA.out i hip
          have hyo := (HOM.out y).1 (List.mem_of_getElem? hy)
          obtain ⟨q, hq, hqp⟩ := HPL.out y hyo.1
          obtain ⟨b1, o1, e1, k1⟩ := text_cell HG.out hyn
          subst e1
          have y0 := keep k1
          clear k1 hyn
          have CP := Lib.hid (fun u (hu : Below W3.heap.size W3 u) => hqp ▸ iref_Place a k c L y.name u HLN.out (HR.out.later (belStep HB.out hu)))
          clear hqp
          have hqn : q < k := by rw [← HLN.out]; exact (List.getElem?_eq_some_iff.1 hq).1
          have hqi : (q : Int) < (k : Int) := by omega
          have hq0 : (0 : Int) ≤ (q : Int) := by omega
          have hd0 : decide ((q : Int) < 0) = false := decide_eq_false (by omega)
          have hd1 : ¬ (q : Int) < 0 := by omega
          have huf : hasU U y.name = false := by have h := hyo.2; unfold freeI at h; simpa using h
          have CH := Lib.hid (fun u (hu : Below W3.heap.size W3 u) => huf ▸ iref_Has b ul uc U y.name u HUN.out (HRU.out.later (belStep HB.out hu)))
          clear huf hyo
          have hys := HSO.out y (List.mem_of_getElem? hy)
          have HN1 := Lib.hid (sizT_next hy)
          have HN2 := Lib.hid (szP_next hy)
          have hsi := HSI.out i (by omega)
          obtain ⟨s9, hs9⟩ : ∃ s9, sizT (O.take i) = s9 := ⟨_, rfl⟩
          rw [hs9] at hsi HN1 ⊢
          clear hs9
          obtain ⟨z9, hz9⟩ : ∃ z9, szP O i = z9 := ⟨_, rfl⟩
          rw [hz9]
          clear hz9
          obtain ⟨be, oe, ee, _, hce⟩ := (HR.out.later HB.out).elem ImgV.cells_len (by omega) hq
          subst ee
          have e1 := keep (hce 1 _ rfl)
          clear hce hq hy
          have hsw : IntKind.i64.wrap (s9 + y.size) = s9 + y.size := IntWalk.i64_in _ (by omega)
          go_wp2_with (first | (go_at_call 35; (with_reducible refine (CP.out _ hbel).mono ?_); rintro e w4 ⟨rfl, hb_⟩; have hbz := belStep hbel hb_; clear hbel; have hbel := hbz; clear hbz hb_) | (go_at_call 29; (with_reducible refine (CH.out _ hbel).mono ?_); rintro e w5 ⟨rfl, hb_⟩; have hbz := belStep hbel hb_; clear hbel; have hbel := hbz; clear hbz hb_))
          go_roundw
          case rel => exact ⟨i + 1, by omega, by push_cast; rfl, by rw [HN1.out], by rw [HN2.out], hbel⟩
          case measure => simp [intOf] <;> omega
        · obtain rfl : i = G.length := by omega
          have hd : decide ((G.length : Int) < (G.length : Int)) = false := decide_eq_false (by omega)
          rw [show sizT (O.take G.length) = S by rw [HGL.out]; exact HSS.out, show szP O G.length = szP O p by rw [HGL.out]]
          obtain ⟨Z, hZ⟩ : ∃ Z, szP O p = Z := ⟨_, rfl⟩
          rw [hZ] at HLO ⊢
          clear hZ
          have HB5 := Lib.hid (belStep HB.out hbel)
          clear HB hbel
          have HB := HB5
          have hb0 : Below wr.heap.size wr wr := Below.refl _ _
          have HB3 := HB
          clear HB5
          clear HB3 HG
          generalize wr = W5 at *
          go_wp2
          go_loopw [15, 16] (fun nv iv wr => ∃ k2 : Nat, k2 ≤ k ∧ iv = .int .i64 k2 ∧ nv = .int .i64 (((L.take k2).filter (freeI U)).length : Nat) ∧ Below W5.heap.size W5 wr) (fun _ iv _ => k - (intOf iv).toNat)
          case atStart => exact ⟨0, Nat.zero_le _, rfl, rfl, hb0⟩
          case round =>
            clear hb0
            obtain ⟨k2, hk2, rfl, rfl, hbel⟩ := hrel
            by_cases hlt : k2 < k
            · have hd : decide ((k2 : Int) < (k : Int)) = true := decide_eq_true (by omega)
              have hki : (k2 : Int) < (k : Int) := by omega
              have hk0 : (0 : Int) ≤ (k2 : Int) := by omega
              have hfl := filtG_len (freeI U) L k2
              rw [HLN.out] at hfl
              obtain ⟨x, hx⟩ : ∃ x, L[k2]? = some x := ⟨L[k2]'(by rw [HLN.out]; exact hlt), List.getElem?_eq_getElem _⟩
              obtain ⟨bc, oc, ec, _, hcc⟩ := (HR.out.later HB.out).elem ImgV.cells_len (by omega) hx
              subst ec
              have c0 := keep (hcc 0 _ rfl)
              have c1 := keep (hcc 1 _ rfl)
              have c2 := keep (hcc 2 _ rfl)
              rw [Nat.add_zero] at c0
              have HX := Lib.hid hx
              clear hx hcc
              have C1 := Lib.hid (fun u (hu : Below W5.heap.size W5 u) => iref_Has b ul uc U x.name u HUN.out (HRU.out.later (belStep HB.out hu)))
              obtain ⟨FN, hFN⟩ : ∃ q, ((L.take k2).filter (freeI U)).length = q := ⟨_, rfl⟩
              rw [hFN] at hfl ⊢
              have HFN := Lib.hid hFN
              clear hFN
              have hw9 : IntKind.i64.wrap ((FN : Int) + 1) = (FN : Int) + 1 := IntWalk.i64_in _ (by omega)
              obtain ⟨p9, hp9⟩ : ∃ q, hasU U x.name = q := ⟨_, rfl⟩
              rw [hp9] at C1
              have HP := Lib.hid hp9
              clear hp9
              cases p9 with
              | false =>
                have HN := Lib.hid (show ((L.take (k2 + 1)).filter (freeI U)).length = FN + 1 by rw [filtG_next (f := freeI U) HX.out (by unfold freeI; rw [HP.out]; rfl), List.length_append, List.length_singleton, HFN.out])
                go_wp2_with (go_at_call 29; (with_reducible refine (C1.out _ hbel).mono ?_); rintro e w5 ⟨rfl, hb_⟩; have hbz := belStep hbel hb_; clear hbel; have hbel := hbz; clear hbz hb_)
                go_roundw
                case rel => exact ⟨k2 + 1, by omega, by push_cast; rfl, by rw [HN.out] <;> push_cast <;> rfl, hbel⟩
                case measure => simp [intOf] <;> omega
              | true =>
                have HN := Lib.hid (show ((L.take (k2 + 1)).filter (freeI U)).length = FN by rw [filtG_same (f := freeI U) HX.out (by unfold freeI; rw [HP.out]; rfl), HFN.out])
                go_wp2_with (go_at_call 29; (with_reducible refine (C1.out _ hbel).mono ?_); rintro e w5 ⟨rfl, hb_⟩; have hbz := belStep hbel hb_; clear hbel; have hbel := hbz; clear hbz hb_)
                go_roundw
                case rel => exact ⟨k2 + 1, by omega, by push_cast; rfl, by rw [HN.out] <;> push_cast <;> rfl, hbel⟩
                case measure => simp [intOf] <;> omega
            · obtain rfl : k2 = k := by omega
              have hd : decide ((k2 : Int) < (k2 : Int)) = false := decide_eq_false (by omega)
              have hFL : ((L.take k2).filter (freeI U)).length = O.length := by rw [List.take_of_length_le (by rw [HLN.out]; exact Nat.le_refl _), ← HOL.out]
              rw [hFL]
              clear hFL
              have t0 : ((p : Int) == (G.length : Int)) = true := by rw [HGL.out]; simp
              have t9 : (S == S) = true := by simp
              have hlo := HLO.out
              have hgl := HGL.out
              by_cases hn1 : need ≤ S
              · have t1 : decide (need ≤ S) = true := decide_eq_true hn1
                by_cases hp0 : p = 0
                · have t3 : ((G.length : Int) == 0) = true := by rw [hgl, hp0]; simp
                  clear hp0
                  clear hlo hgl
                  go_wp2
                  go_ret
                  exact ⟨by first | rfl | simp, belStep HB.out hbel⟩
                · have t3 : ((G.length : Int) == 0) = false := by rw [hgl, beq_eq_false_iff_ne]; omega
                  obtain ⟨h1, h2, h3⟩ := hlo.resolve_left hp0
                  have t4 : IntKind.i64.wrap (S - Z) = S - Z := IntWalk.i64_in _ (by omega)
                  have t5 : decide (S - Z < need) = true := decide_eq_true h1
                  clear h1
                  clear hlo hgl
                  go_wp2
                  go_ret
                  exact ⟨by first | rfl | simp, belStep HB.out hbel⟩
              · have t1 : decide (need ≤ S) = false := decide_eq_false hn1
                have t2 : ((G.length : Int) == (O.length : Int)) = true := by rw [hgl, hp5h.out.resolve_left hn1]; simp
                by_cases hp0 : p = 0
                · have t3 : ((G.length : Int) == 0) = true := by rw [hgl, hp0]; simp
                  clear hp0
                  clear hlo hgl
                  go_wp2
                  go_ret
                  exact ⟨by first | rfl | simp, belStep HB.out hbel⟩
                · have t3 : ((G.length : Int) == 0) = false := by rw [hgl, beq_eq_false_iff_ne]; omega
                  obtain ⟨h1, h2, h3⟩ := hlo.resolve_left hp0
                  have t4 : IntKind.i64.wrap (S - Z) = S - Z := IntWalk.i64_in _ (by omega)
                  have t5 : decide (S - Z < need) = true := decide_eq_true h1
                  clear h1
                  clear hlo hgl
                  go_wp2
                  go_ret
                  exact ⟨by first | rfl | simp, belStep HB.out hbel⟩

set_option maxRecDepth 100000 in
theorem lifted (os : Os) (started : os.Started) (H : Type) (enc : TypeId × Value → H) :
    ReturnsInHanded {} Try.checked os 7 .any (Rows.sweepLeastSpec.pre6 enc Try.prog Try.f7 Rows.sweepLeastRow.domain false) (Rows.sweepLeastSpec.post enc Try.prog Try.f7 false true false false) := by
  refine returnsInHanded_of_change (C := Try.checked) own started (by kernel_rfl) Try.func7
    (ChangeSpec.witness6 (enc := enc) (C := Try.checked) false ⟨#[], #[.slice none 0 0, .slice none 0 0, .int .i64 0], []⟩ 8 (by kernel_rfl) (by kernel_rfl) (by kernel_rfl) (by kernel_rfl)) ?_
  intro W base args ds gs before hval0 hW hcnd _
  have hval : ∀ (j : Nat) t v, Try.f7.params[j]? = some t → args[j]? = some v → Value.okWide Try.prog W .any base t v := hval0
  have hW' := hW
  obtain ⟨p, q, hA0, hV, rfl, hfz, hnd⟩ := hW
  have hA : DataW.TrodAll enc Try.prog W 0 (fun _ => true) true Try.f7.params.toList args.toList ds p := hA0
  rw [Try.params7] at hA hval
  obtain ⟨v0, vs0, d0, ds0, p0, q0, hargs, rfl, rfl, h0, r0⟩ := trodAll_cons hA
  obtain ⟨v1, vs1, d1, ds1, p1, q1, rfl, rfl, rfl, h1, r1⟩ := trodAll_cons r0
  obtain ⟨v2, vs2, d2, ds2, p2, q2, rfl, rfl, rfl, h2, r2⟩ := trodAll_cons r1
  obtain ⟨rfl, rfl, rfl⟩ := trodAll_nil r2
  obtain rfl : args = #[v0, v1, v2] := by cases args; simp_all
  obtain ⟨rfl, rfl⟩ := trodVars_none hV
  have k0 := h0
  have lt0 : ∀ x ∈ p0, x.block < W.heap.size := by obtain ⟨m, hm⟩ := k0; exact DataW.trod_lt m _ _ _ hm
  have o0 : Value.okWide Try.prog W .any base 39 v0 := hval 0 39 v0 rfl rfl
  obtain ⟨xa0, xn0, xc0, xl0, rfl, fl0, fo0, fr0⟩ := open_imgs o0 h0
  have k1 := h1
  have lt1 : ∀ x ∈ p1, x.block < W.heap.size := by obtain ⟨m, hm⟩ := k1; exact DataW.trod_lt m _ _ _ hm
  have o1 : Value.okWide Try.prog W .any base 23 v1 := hval 1 23 v1 rfl rfl
  obtain ⟨ya1, yn1, yc1, yu1, rfl, gl1, go1, gr1⟩ := open_texts o1 h1
  have k2 := h2
  have lt2 : ∀ x ∈ p2, x.block < W.heap.size := by obtain ⟨m, hm⟩ := k2; exact DataW.trod_lt m _ _ _ hm
  have o2 : Value.okWide Try.prog W .any base 3 v2 := hval 2 3 v2 rfl rfl
  obtain ⟨a2, rfl, rfl, rfl, w2⟩ := open_int Try.underlying3 o2 h2
  clear hA0 hval0
  refine (walk xa0 xn0 xc0 xl0 ya1 yn1 yc1 yu1 a2 W fl0 fo0 fr0 gl1 go1 gr1 (inI_of_wf w2)).mono fun e W' ⟨he, bel⟩ => ?_
  subst he
  exact ⟨_, rfl, _, _, _, [], _, [], hW', trodAll_mk1 (shut_bool Try.underlying4 _), (trodAll_cons_mk (Below.trod laidOut (by kernel_rfl) (of_decide_eq_true (by kernel_rfl)) k0 bel lt0) (trodAll_cons_mk (Below.trod laidOut (by kernel_rfl) (of_decide_eq_true (by kernel_rfl)) k1 bel lt1) (trodAll_cons_mk (Below.trod laidOut (by kernel_rfl) (of_decide_eq_true (by kernel_rfl)) k2 bel lt2) trodAll_mk0))), rfl, bel.frame _, fun h => by cases h⟩

theorem over : Rows.sweepLeastRow.holds Try.pinned (OpenSpec.ofChange Rows.sweepLeastSpec) :=
  OpenClaim.holds_of_wide 7 Try.f7 rfl rfl rfl rfl rfl rfl rfl ⟨rfl, rfl, rfl, rfl, rfl⟩ rfl rfl rfl rfl rfl (by kernel_rfl) Try.func7 (by kernel_rfl)
    (of_decide_eq_true (by kernel_rfl)) (by unfold Func.isWrapper; first | (rw [if_pos (by decide +kernel)]; kernel_rfl) | (rw [if_neg (by decide +kernel)]; exact ⟨rfl, rfl⟩))
    (fun os started H enc _ => lifted os started H enc)

/-- The statement. -/
theorem proved : Rows.SweepLeastSaid := over
#print axioms proved

end Go.Proofs.Ytampkolkbjmmkaa.sweepLeast
