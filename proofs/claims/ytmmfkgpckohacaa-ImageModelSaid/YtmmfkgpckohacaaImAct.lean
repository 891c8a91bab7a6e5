
/- Acts that came in; bilgelaw15's few and after: contracts. -/
import Derived.Test.YtmmfkgpckohacaaImLM
namespace Go.Proofs.Ytmmfkgpckohacaa
open Go.RowKit
set_option linter.unusedVariables false
set_option linter.unusedSimpArgs false
structure ActV where
  op : Int
  name : ByteArray
  size : Int
  round : Int
  ua : Option Addr
  un : Nat
  uc : Nat
  U : List ByteArray
def ActV.cells (x : ActV) : List Value := [.int .i64 x.op, .string x.name, .int .i64 x.size, .int .i64 x.round, .slice x.ua x.un x.uc]
theorem ActV.cells_len (x : ActV) : x.cells.length = 5 := rfl
/-- What an act holds, in a world: its own numbers, and the texts that lie behind it. -/
def ActV.good (W : World) (x : ActV) : Prop := (InI x.op ∧ x.name.size ≤ maxLen ∧ InI x.size ∧ InI x.round ∧ x.U.length = x.un ∧ ∀ s ∈ x.U, s.size ≤ maxLen) ∧ Row W x.ua x.un x.uc 1 (x.U.map Value.string)
theorem list5a {l : List Value} (h : l.length = 5) : ∃ a b c d e, l = [a, b, c, d, e] := by
  match l, h with
  | [a, b, c, d, e], _ => exact ⟨_, _, _, _, _, rfl⟩
theorem rd_tsl {w : World} {g : Value} (h : Rd Try.prog w 26 [g]) : ∃ ta tl tc, g = .slice ta tl tc := by
  rcases Rd.slice Try.underlying26 h with h0 | ⟨ad, len, cap, h1, _⟩
  · simp at h0; exact ⟨_, _, _, h0⟩
  · simp at h1; exact ⟨_, _, _, h1⟩
theorem rd_act {w : World} {cs : List Value} (h : Rd Try.prog w 28 cs) : ∃ x : ActV, cs = x.cells ∧ x.good w := by
  obtain ⟨hl, hf⟩ := Rd.struct Try.underlying28 h
  rw [show Try.prog.cellsOf 28 = 5 by kernel_rfl] at hl
  obtain ⟨a, b, c, d, e, rfl⟩ := list5a hl
  have h0 := hf 0 _ rfl
  have h1 := hf 1 _ rfl
  have h2 := hf 2 _ rfl
  have h3 := hf 3 _ rfl
  have h4 := hf 4 _ rfl
  simp [show Try.prog.cellsOf 3 = 1 by kernel_rfl, show Try.prog.cellsOf 9 = 1 by kernel_rfl, show Try.prog.cellsOf 26 = 1 by kernel_rfl] at h0 h1 h2 h3 h4
  obtain ⟨o, e0, w0⟩ := Rd.int Try.underlying3 h0
  obtain ⟨s, e1, w1⟩ := Rd.string Try.underlying9 h1
  obtain ⟨m, e2, w2⟩ := Rd.int Try.underlying3 h2
  obtain ⟨n, e3, w3⟩ := Rd.int Try.underlying3 h3
  obtain ⟨ta, tl, tc, rfl⟩ := rd_tsl h4
  obtain ⟨G, g1, g2, g3⟩ := Rd.rows (fun s : ByteArray => [Value.string s]) 1 Try.underlying26 (by kernel_rfl) (by omega) (fun _ => rfl) (fun s => s.size ≤ maxLen) (fun es hes => Rd.string Try.underlying9 hes) h4
  simp at e0 e1 e2 e3
  subst e0 e1 e2 e3
  exact ⟨⟨o, s, m, n, ta, tl, tc, G⟩, rfl, ⟨inI_of_wf w0, w1, inI_of_wf w2, inI_of_wf w3, g1, g2⟩, by rw [flat_text] at g3; exact g3⟩
set_option maxRecDepth 100000 in
theorem open_acts {H : Type} {enc : TypeId × Value → H} {W : World} {v : Value} {b : Nat} {d : DataW H} {p : List MemPlace} (o : Value.okWide Try.prog W .any b 22 v) (h : DataW.Trod enc Try.prog W 0 (fun _ => true) true 22 v d p) :
    ∃ (a : Option Addr) (len cap : Nat) (L : List ActV), v = .slice a len cap ∧ L.length = len ∧ (∀ x ∈ L, x.good W) ∧ Row W a len cap 5 (L.flatMap ActV.cells) := by
  obtain ⟨a, len, cap, rfl⟩ := slice_of_ok Try.underlying22 o
  obtain ⟨L, h1, h2, h3⟩ := Rd.rows ActV.cells 5 Try.underlying22 (by kernel_rfl) (by omega) ActV.cells_len (ActV.good W) (fun es hes => rd_act hes) (Rd.of h)
  exact ⟨a, len, cap, L, rfl, h1, h2, h3⟩
def actB (x : ActV) : Bool := ((decide (x.name.size ≤ 60) && fewT x.U) && decide (0 ≤ x.size)) && decide (0 ≤ x.round)
def fewA (L : List ActV) : Bool := (L.take 100).all actB && decide (L.length ≤ 50)
theorem fewA_len {L : List ActV} (h : fewA L = true) : L.length ≤ 50 := by unfold fewA at h; rw [Bool.and_eq_true] at h; exact of_decide_eq_true h.2
def stepA (M : List ImgV) (x : ActV) : List ImgV := if x.op = 0 then putI M x.name x.size x.round else if x.op = 1 then touchI M x.U x.round else dropI M x.name
def afterA (L : List ActV) : List ImgV := L.foldl stepA []
theorem after_next {L : List ActV} {k : Nat} {x : ActV} (h : L[k]? = some x) : afterA (L.take (k + 1)) = stepA (afterA (L.take k)) x := by
  unfold afterA; rw [takeG_next h, List.foldl_append]; rfl
theorem fold_inv {p : List ImgV → Prop} : ∀ (L : List ActV) (M : List ImgV), p M → (∀ N x, x ∈ L → p N → p (stepA N x)) → p (L.foldl stepA M) := by
  intro L
  induction L with
  | nil => intro M h _; exact h
  | cons y L ih => intro M h hs; exact ih _ (hs M y List.mem_cons_self h) (fun N x hx hN => hs N x (List.mem_cons_of_mem _ hx) hN)
theorem step_rises {M : List ImgV} (h : Rises M) (x : ActV) : Rises (stepA M x) := by
  unfold stepA
  split
  · exact put_rises h _ _ _
  · split
    · exact touch_rises h _ _
    · exact filt_rises h _
theorem after_rises (L : List ActV) : Rises (afterA L) := fold_inv L [] List.Pairwise.nil (fun _ x _ h => step_rises h x)
theorem step_len (M : List ImgV) (x : ActV) : (stepA M x).length ≤ M.length + 1 := by
  unfold stepA
  split
  · exact put_len_le _ _ _ _
  · split
    · rw [touch_len]; omega
    · have := drop_len_le M x.name; omega
theorem after_len (L : List ActV) : (afterA L).length ≤ L.length := by
  have : ∀ (L : List ActV) (M : List ImgV), (L.foldl stepA M).length ≤ M.length + L.length := by
    intro L
    induction L with
    | nil => intro M; exact Nat.le_refl _
    | cons y L ih => intro M; have h1 := ih (stepA M y); have h2 := step_len M y; rw [List.foldl_cons, List.length_cons]; omega
  have h := this L []
  simpa [afterA] using h
theorem step_ok {M : List ImgV} {x : ActV} (h : ∀ y ∈ M, y.ok) (hn : x.name.size ≤ maxLen) (hs : InI x.size) (hr : InI x.round) : ∀ y ∈ stepA M x, y.ok := by
  intro y hy
  unfold stepA at hy
  split at hy
  · unfold putI at hy
    split at hy
    · obtain ⟨z, hz, rfl⟩ := List.mem_map.1 hy
      obtain ⟨h1, h2, h3⟩ := h z hz
      split
      · exact ⟨h1, h2, hr⟩
      · exact ⟨h1, h2, h3⟩
    · rcases List.mem_append.1 hy with hy | hy
      · exact h y (List.mem_of_mem_take hy)
      · rcases List.mem_cons.1 hy with rfl | hy
        · exact ⟨hn, hs, hr⟩
        · exact h y (List.mem_of_mem_drop hy)
  · split at hy
    · unfold touchI at hy
      obtain ⟨z, hz, rfl⟩ := List.mem_map.1 hy
      obtain ⟨h1, h2, h3⟩ := h z hz
      split
      · exact ⟨h1, h2, hr⟩
      · exact ⟨h1, h2, h3⟩
    · exact h y (List.mem_filter.1 hy).1
theorem after_ok {W : World} {L : List ActV} (h : ∀ x ∈ L, x.good W) : ∀ y ∈ afterA L, y.ok :=
  fold_inv (p := fun N => ∀ y ∈ N, y.ok) L [] (fun y hy => by cases hy) (fun N x hx hN => by
    obtain ⟨⟨_, h1, h2, h3, _⟩, _⟩ := h x hx
    exact step_ok hN h1 h2 h3)
set_option maxRecDepth 100000 in
set_option maxHeartbeats 16000000 in
theorem iact_few (a : Option Addr) (len cap : Nat) (L : List ActV) (w : World) (hl : L.length = len) (hR : Row w a len cap 5 (L.flatMap ActV.cells)) (hg : ∀ x ∈ L, x.good w) :
    Calls Try.prog 18 #[.slice a len cap] w fun e w' => e = .returned (.bool (fewA L)) ∧ Below w.heap.size w w' := by
  have hw : Below w.heap.size w w := Below.refl _ _
  have hbd_a : len ≤ cap ∧ cap ≤ 9223372036854775807 := by obtain ⟨_, h1, h2, _⟩ := hR; unfold maxLen at h2; exact ⟨h1, h2⟩
  obtain ⟨hbd1_a, hbd2_a⟩ := hbd_a
  have HR := Lib.hid hR
  clear hR
  subst hl
  have HG := Lib.hid hg
  clear hg
  go_enter Try.func18, Try.ntmps18
  go_wp2
  go_loopw [3] (fun i wr => ∃ k : Nat, k ≤ L.length ∧ k ≤ 100 ∧ i = .int .i64 k ∧ Hid ((L.take k).all actB = true) ∧ Below w.heap.size w wr) (fun i _ => L.length - (intOf i).toNat)
  case atStart => exact ⟨0, Nat.zero_le _, by omega, rfl, Lib.hid rfl, hw⟩
  case round =>
    clear hw
    obtain ⟨k, hk, hk2, rfl, HC, hbel⟩ := hrel
    by_cases hlt2 : k < min L.length 100
    · have hlt : k < L.length := by omega
      have hd : decide ((k : Int) < (L.length : Int)) = true := decide_eq_true (by omega)
      have hki : (k : Int) < (L.length : Int) := by omega
      have hk0 : (0 : Int) ≤ (k : Int) := by omega
      have hd2 : decide ((k : Int) < 100) = true := decide_eq_true (by omega)
      have hd3 : (k : Int) < 100 := by omega
      obtain ⟨x, hx⟩ : ∃ x, L[k]? = some x := ⟨L[k], List.getElem?_eq_getElem hlt⟩
      obtain ⟨bc, oc, ec, _, hcc⟩ := (HR.out).elem ActV.cells_len (by omega) hx
      subst ec
      have c0 := keep (hcc 0 _ rfl)
      have c1 := keep (hcc 1 _ rfl)
      have c2 := keep (hcc 2 _ rfl)
      have c3 := keep (hcc 3 _ rfl)
      have c4 := keep (hcc 4 _ rfl)
      rw [Nat.add_zero] at c0
      have HX := Lib.hid hx
      obtain ⟨⟨_, hsz, _, _, hul, huk⟩, hRU⟩ := HG.out _ (List.mem_of_getElem? hx)
      have hsz0 : x.name.size ≤ 9223372036854775807 := by unfold maxLen at hsz; omega
      obtain ⟨nm, hnm⟩ : ∃ q, fewT x.U = q := ⟨_, rfl⟩
      have CNM := Lib.hid (fun u (hu : Below w.heap.size w u) => hnm ▸ iref_Names x.ua x.un x.uc x.U u hul (hRU.later hu) huk)
      have HNM := Lib.hid hnm
      clear hx hcc hsz hul huk hRU hnm
      by_cases h60 : 60 < x.name.size
      · have d1 : decide ((60 : Int) < (x.name.size : Int)) = true := decide_eq_true (by omega)
        have d2 : (60 : Int) < (x.name.size : Int) := by omega
        have HN := Lib.hid (show fewA L = false by unfold fewA; rw [allG_not HX.out (show actB x = false by unfold actB; rw [decide_eq_false (show ¬ x.name.size ≤ 60 by omega)]; rfl) (show k < 100 by omega)]; rfl)
        go_wp2
        go_ret
        exact ⟨by rw [HN.out]; rfl, hbel⟩
      · have d1 : decide ((60 : Int) < (x.name.size : Int)) = false := decide_eq_false (by omega)
        have d2 : ¬ (60 : Int) < (x.name.size : Int) := by omega
        cases nm with
        | false =>
          have HN := Lib.hid (show fewA L = false by unfold fewA; rw [allG_not HX.out (show actB x = false by unfold actB; rw [HNM.out]; simp) (show k < 100 by omega)]; rfl)
          go_wp2_with (go_at_call 31; (with_reducible refine (CNM.out _ hbel).mono ?_); rintro e wn ⟨rfl, hb_⟩; have hbz := belStep hbel hb_; clear hbel; have hbel := hbz; clear hbz hb_)
          go_ret
          exact ⟨by rw [HN.out]; rfl, hbel⟩
        | true =>
          by_cases hs : x.size < 0
          · have d3 : decide (x.size < (0 : Int)) = true := decide_eq_true hs
            have HN := Lib.hid (show fewA L = false by unfold fewA; rw [allG_not HX.out (show actB x = false by unfold actB; rw [show decide (0 ≤ x.size) = false from decide_eq_false (by omega)]; simp) (show k < 100 by omega)]; rfl)
            go_wp2_with (go_at_call 31; (with_reducible refine (CNM.out _ hbel).mono ?_); rintro e wn ⟨rfl, hb_⟩; have hbz := belStep hbel hb_; clear hbel; have hbel := hbz; clear hbz hb_)
            go_ret
            exact ⟨by rw [HN.out]; rfl, hbel⟩
          · have d3 : decide (x.size < (0 : Int)) = false := decide_eq_false hs
            by_cases hz : x.round < 0
            · have d4 : decide (x.round < (0 : Int)) = true := decide_eq_true hz
              have HN := Lib.hid (show fewA L = false by unfold fewA; rw [allG_not HX.out (show actB x = false by unfold actB; rw [show decide (0 ≤ x.round) = false from decide_eq_false (by omega)]; simp) (show k < 100 by omega)]; rfl)
              go_wp2_with (go_at_call 31; (with_reducible refine (CNM.out _ hbel).mono ?_); rintro e wn ⟨rfl, hb_⟩; have hbz := belStep hbel hb_; clear hbel; have hbel := hbz; clear hbz hb_)
              go_ret
              exact ⟨by rw [HN.out]; rfl, hbel⟩
            · have d4 : decide (x.round < (0 : Int)) = false := decide_eq_false hz
              have HN := Lib.hid (show (L.take (k + 1)).all actB = true by rw [allG_next HX.out, HC.out, show actB x = true by unfold actB; rw [decide_eq_true (show x.name.size ≤ 60 by omega), HNM.out, show decide (0 ≤ x.size) = true from decide_eq_true (by omega), show decide (0 ≤ x.round) = true from decide_eq_true (by omega)]; rfl]; rfl)
              go_wp2_with (go_at_call 31; (with_reducible refine (CNM.out _ hbel).mono ?_); rintro e wn ⟨rfl, hb_⟩; have hbz := belStep hbel hb_; clear hbel; have hbel := hbz; clear hbz hb_)
              go_roundw
              case rel => exact ⟨k + 1, by omega, by omega, by push_cast; rfl, HN, hbel⟩
              case measure => simp [intOf] <;> omega
    · obtain rfl : k = min L.length 100 := by omega
      by_cases h100 : L.length < 100
      · have hmi : min L.length 100 = L.length := by omega
        rw [hmi] at HC ⊢
        have HF := Lib.hid (show fewA L = decide (L.length ≤ 50) by unfold fewA; rw [List.take_of_length_le (by omega)]; rw [List.take_length] at HC; rw [HC.out]; rfl)
        have hd : decide ((L.length : Int) < (L.length : Int)) = false := decide_eq_false (by omega)
        have k10 : decide ((L.length : Int) ≤ 50) = decide (L.length ≤ 50) := decide_eq_decide.2 (by omega)
        go_wp2
        go_ret
        exact ⟨by rw [HF.out]; first | rfl | (rw [← k10]; rfl), hbel⟩
      · have hmi : min L.length 100 = 100 := by omega
        rw [hmi] at HC ⊢
        have HF := Lib.hid (show fewA L = false by unfold fewA; rw [show decide (L.length ≤ 50) = false from decide_eq_false (by omega), Bool.and_false])
        have k10 : decide ((L.length : Int) ≤ 50) = false := decide_eq_false (by omega)
        have k11 : ¬ (L.length : Int) ≤ 50 := by omega
        by_cases h9 : L.length = 100
        · have hd : decide (((100 : Nat) : Int) < (L.length : Int)) = false := decide_eq_false (by omega)
          have hd4 : decide ((100 : Int) < (L.length : Int)) = false := decide_eq_false (by omega)
          go_wp2
          go_ret
          exact ⟨by rw [HF.out]; rfl, hbel⟩
        · have hd : decide (((100 : Nat) : Int) < (L.length : Int)) = true := decide_eq_true (by omega)
          have hd4 : decide ((100 : Int) < (L.length : Int)) = true := decide_eq_true (by omega)
          have hd5 : (100 : Int) < (L.length : Int) := by omega
          go_wp2
          go_ret
          exact ⟨by rw [HF.out]; rfl, hbel⟩
set_option maxRecDepth 100000 in
set_option maxHeartbeats 16000000 in
theorem iact_after (a : Option Addr) (len cap : Nat) (L : List ActV) (w : World) (hl : L.length = len) (hR : Row w a len cap 5 (L.flatMap ActV.cells)) (hg : ∀ x ∈ L, x.good w) (hn : len ≤ 50) :
    Calls Try.prog 24 #[.slice a len cap] w fun e w' => ∃ v, e = .returned v ∧ OwnR w' w.heap.size 31 3 v (afterA L).length ((afterA L).flatMap ImgV.cells) ∧ Below w.heap.size w w' := by
  have hw : Below w.heap.size w w := Below.refl _ _
  have hbd_a : len ≤ cap ∧ cap ≤ 9223372036854775807 := by obtain ⟨_, h1, h2, _⟩ := hR; unfold maxLen at h2; exact ⟨h1, h2⟩
  obtain ⟨hbd1_a, hbd2_a⟩ := hbd_a
  have HR := Lib.hid hR
  clear hR
  subst hl
  have HG := Lib.hid hg
  clear hg
  go_enter Try.func24, Try.ntmps24
  go_wp2
  go_loopw [3, 4] (fun v i wr => ∃ k : Nat, k ≤ L.length ∧ i = .int .i64 k ∧ OwnR wr w.heap.size 31 3 v (afterA (L.take k)).length ((afterA (L.take k)).flatMap ImgV.cells) ∧ Below w.heap.size w wr) (fun _ i _ => L.length - (intOf i).toNat)
  case atStart => exact ⟨0, Nat.zero_le _, rfl, OwnR.nil _ _ _ _, hw⟩
  case round =>
    clear hw
    obtain ⟨k, hk, rfl, hO, hbr⟩ := hrel
    by_cases hlt : k < L.length
    · have hd : decide ((k : Int) < (L.length : Int)) = true := decide_eq_true (by omega)
      have hki : (k : Int) < (L.length : Int) := by omega
      have hk0 : (0 : Int) ≤ (k : Int) := by omega
      obtain ⟨x, hx⟩ : ∃ x, L[k]? = some x := ⟨L[k], List.getElem?_eq_getElem hlt⟩
      obtain ⟨bc, oc, ec, _, hcc⟩ := (HR.out.later hbr).elem ActV.cells_len (by omega) hx
      subst ec
      have c0 := keep (hcc 0 _ rfl)
      have c1 := keep (hcc 1 _ rfl)
      have c2 := keep (hcc 2 _ rfl)
      have c3 := keep (hcc 3 _ rfl)
      have c4 := keep (hcc 4 _ rfl)
      rw [Nat.add_zero] at c0
      have HN := Lib.hid (after_next hx)
      obtain ⟨⟨_, _, _, _, hul, _⟩, hRU⟩ := HG.out _ (List.mem_of_getElem? hx)
      have HRU := Lib.hid (hRU.later hbr)
      have HUN := Lib.hid hul
      clear hx hcc hRU hul
      have hml := after_len (L.take k)
      have hmr := after_rises (L.take k)
      obtain ⟨M, hM⟩ : ∃ M, afterA (L.take k) = M := ⟨_, rfl⟩
      rw [hM] at hO HN hml hmr
      have hm50 : M.length ≤ 50 := by rw [List.length_take] at hml; omega
      clear hM hml
      obtain ⟨ma, mc, rfl, hrm⟩ := rowR_of_own hO
      have HM := Lib.hid hrm
      have HRI := Lib.hid hmr
      have HBR := Lib.hid hbr
      clear hO hrm hmr hbr
      have hbel : Below wr.heap.size wr wr := Below.refl _ _
      by_cases ho0 : x.op = 0
      · have d0 : (x.op == (0 : Int)) = true := by rw [ho0]; rfl
        have HN2 := Lib.hid (HN.out.trans (show stepA M x = putI M x.name x.size x.round by unfold stepA; rw [if_pos ho0]))
        have CC := Lib.hid (fun u (hu : Below wr.heap.size wr u) => iref_Put ma M.length mc M x.name x.size x.round u rfl (HM.out.later hu) HRI.out (by omega))
        go_upto_region 6 with fail
        refine wp_region_held_drew (S := fun u => Below wr.heap.size wr u) (by kernel_rfl) (by exact (show Below wr.heap.size wr _ by repeat (first | assumption | exact Below.refl _ _ | refine belDrew ?_ | refine belAlloc ?_ _ | refine belStep ?_ (by assumption)))) (fun hHeld => ?_)
        refine wpAnyH_take (i := 0) (oi := ?oi_k1) (v := ?v_k1) ?hi_k1 (by kernel_rfl) ?hf_k1 ?hr_k1 ?hQ_k1 (Or.inl ⟨?hw_k1, ?hy_k1⟩) (by assumption) ?rest_k1
        case hi_k1 => ((simp only [List.getElem?_toArray, List.getElem?_cons_succ, List.getElem?_cons_zero]); rfl)
        case hf_k1 => kernel_rfl
        case hr_k1 => kernel_rfl
        case hQ_k1 => exact fun _ _ _ h => h
        case hw_k1 => rfl
        case hy_k1 => ((intro w hSw; (try dsimp only at hSw); go_simp); all_goals (with_reducible rfl))
        try simp only [Act.put, List.setIfInBounds_toArray, List.set_cons_zero, List.set_cons_succ]
        refine wpAnyH_take (i := 1) (oi := ?oi_k2) (v := ?v_k2) ?hi_k2 (by kernel_rfl) ?hf_k2 ?hr_k2 ?hQ_k2 (Or.inl ⟨?hw_k2, ?hy_k2⟩) (by assumption) ?rest_k2
        case hi_k2 => ((simp only [List.getElem?_toArray, List.getElem?_cons_succ, List.getElem?_cons_zero]); rfl)
        case hf_k2 => kernel_rfl
        case hr_k2 => kernel_rfl
        case hQ_k2 => exact fun _ _ _ h => h
        case hw_k2 => rfl
        case hy_k2 => ((intro w hSw; (try dsimp only at hSw); go_simp); all_goals (with_reducible rfl))
        try simp only [Act.put, List.setIfInBounds_toArray, List.set_cons_zero, List.set_cons_succ]
        refine wpAnyH_take (i := 2) (oi := ?oi_k3) (v := ?v_k3) ?hi_k3 (by kernel_rfl) ?hf_k3 ?hr_k3 ?hQ_k3 (Or.inl ⟨?hw_k3, ?hy_k3⟩) (by assumption) ?rest_k3
        case hi_k3 => ((simp only [List.getElem?_toArray, List.getElem?_cons_succ, List.getElem?_cons_zero]); rfl)
        case hf_k3 => kernel_rfl
        case hr_k3 => kernel_rfl
        case hQ_k3 => exact fun _ _ _ h => h
        case hw_k3 => rfl
        case hy_k3 => ((intro w hSw; (try dsimp only at hSw); go_simp); all_goals (with_reducible rfl))
        try simp only [Act.put, List.setIfInBounds_toArray, List.set_cons_zero, List.set_cons_succ]
        refine wpAnyH_take (i := 3) (oi := ?oi_k4) (v := ?v_k4) ?hi_k4 (by kernel_rfl) ?hf_k4 ?hr_k4 ?hQ_k4 (Or.inl ⟨?hw_k4, ?hy_k4⟩) (by assumption) ?rest_k4
        case hi_k4 => ((simp only [List.getElem?_toArray, List.getElem?_cons_succ, List.getElem?_cons_zero]); rfl)
        case hf_k4 => kernel_rfl
        case hr_k4 => kernel_rfl
        case hQ_k4 => exact fun _ _ _ h => h
        case hw_k4 => rfl
        case hy_k4 => ((intro w hSw; (try dsimp only at hSw); go_simp); all_goals (with_reducible rfl))
        try simp only [Act.put, List.setIfInBounds_toArray, List.set_cons_zero, List.set_cons_succ]
        refine wpAnyH_take (i := 4) (oi := ?oi_k5) (v := ?v_k5) ?hi_k5 (by kernel_rfl) ?hf_k5 ?hr_k5 ?hQ_k5 (Or.inl ⟨?hw_k5, ?hy_k5⟩) (by assumption) ?rest_k5
        case hi_k5 => ((simp only [List.getElem?_toArray, List.getElem?_cons_succ, List.getElem?_cons_zero]); rfl)
        case hf_k5 => kernel_rfl
        case hr_k5 => kernel_rfl
        case hQ_k5 => exact fun _ _ _ h => h
        case hw_k5 => rfl
        case hy_k5 => ((intro w hSw; (try dsimp only at hSw); go_simp); all_goals (with_reducible rfl))
        try simp only [Act.put, List.setIfInBounds_toArray, List.set_cons_zero, List.set_cons_succ]
        refine wpAnyH_take (i := 5) (oi := ?oi_k6) (v := ?v_k6) ?hi_k6 (by kernel_rfl) ?hf_k6 ?hr_k6 ?hQ_k6 (Or.inl ⟨?hw_k6, ?hy_k6⟩) (by assumption) ?rest_k6
        case hi_k6 => ((simp only [List.getElem?_toArray, List.getElem?_cons_succ, List.getElem?_cons_zero]); rfl)
        case hf_k6 => kernel_rfl
        case hr_k6 => kernel_rfl
        case hQ_k6 => exact fun _ _ _ h => h
        case hw_k6 => rfl
        case hy_k6 => ((intro w hSw; (try dsimp only at hSw); go_simp); all_goals (with_reducible rfl))
        try simp only [Act.put, List.setIfInBounds_toArray, List.set_cons_zero, List.set_cons_succ]
        refine wpAnyH_take (i := 6) (oi := ?oi_k7) (v := ?v_k7) ?hi_k7 (by kernel_rfl) ?hf_k7 ?hr_k7 ?hQ_k7 (Or.inl ⟨?hw_k7, ?hy_k7⟩) (by assumption) ?rest_k7
        case hi_k7 => ((simp only [List.getElem?_toArray, List.getElem?_cons_succ, List.getElem?_cons_zero]); rfl)
        case hf_k7 => kernel_rfl
        case hr_k7 => kernel_rfl
        case hQ_k7 => exact fun _ _ _ h => h
        case hw_k7 => rfl
        case hy_k7 => ((intro w hSw; (try dsimp only at hSw); go_simp); all_goals (with_reducible rfl))
        try simp only [Act.put, List.setIfInBounds_toArray, List.set_cons_zero, List.set_cons_succ]
        refine wpAnyH_take (i := 7) (oi := ?oi_k8) (v := ?v_k8) ?hi_k8 (by kernel_rfl) ?hf_k8 ?hr_k8 ?hQ_k8 (Or.inl ⟨?hw_k8, ?hy_k8⟩) (by assumption) ?rest_k8
        case hi_k8 => ((simp only [List.getElem?_toArray, List.getElem?_cons_succ, List.getElem?_cons_zero]); rfl)
        case hf_k8 => kernel_rfl
        case hr_k8 => kernel_rfl
        case hQ_k8 => exact fun _ _ _ h => h
        case hw_k8 => rfl
        case hy_k8 => ((intro w hSw; (try dsimp only at hSw); go_simp); all_goals (with_reducible rfl))
        try simp only [Act.put, List.setIfInBounds_toArray, List.set_cons_zero, List.set_cons_succ]
        refine wpAnyH_take (i := 8) (oi := ?oi_k9) (v := ?v_k9) ?hi_k9 (by kernel_rfl) ?hf_k9 ?hr_k9 ?hQ_k9 (Or.inl ⟨?hw_k9, ?hy_k9⟩) (by assumption) ?rest_k9
        case hi_k9 => ((simp only [List.getElem?_toArray, List.getElem?_cons_succ, List.getElem?_cons_zero]); rfl)
        case hf_k9 => kernel_rfl
        case hr_k9 => kernel_rfl
        case hQ_k9 => exact fun _ _ _ h => h
        case hw_k9 => rfl
        case hy_k9 => ((intro w hSw; (try dsimp only at hSw); go_simp); all_goals (with_reducible rfl))
        try simp only [Act.put, List.setIfInBounds_toArray, List.set_cons_zero, List.set_cons_succ]
        refine wpAnyH_take (i := 9) (oi := ?oi_k10) (v := ?v_k10) ?hi_k10 (by kernel_rfl) ?hf_k10 ?hr_k10 ?hQ_k10 (Or.inl ⟨?hw_k10, ?hy_k10⟩) (by assumption) ?rest_k10
        case hi_k10 => ((simp only [List.getElem?_toArray, List.getElem?_cons_succ, List.getElem?_cons_zero]); rfl)
        case hf_k10 => kernel_rfl
        case hr_k10 => kernel_rfl
        case hQ_k10 => exact fun _ _ _ h => h
        case hw_k10 => rfl
        case hy_k10 => ((intro w hSw; (try dsimp only at hSw); go_simp); all_goals (with_reducible rfl))
        try simp only [Act.put, List.setIfInBounds_toArray, List.set_cons_zero, List.set_cons_succ]
        refine wpAnyH_take (i := 10) (oi := ?oi_k11) (v := ?v_k11) ?hi_k11 (by kernel_rfl) ?hf_k11 ?hr_k11 ?hQ_k11 (Or.inl ⟨?hw_k11, ?hy_k11⟩) (by assumption) ?rest_k11
        case hi_k11 => ((simp only [List.getElem?_toArray, List.getElem?_cons_succ, List.getElem?_cons_zero]); rfl)
        case hf_k11 => kernel_rfl
        case hr_k11 => kernel_rfl
        case hQ_k11 => exact fun _ _ _ h => h
        case hw_k11 => rfl
        case hy_k11 => ((intro w hSw; (try dsimp only at hSw); go_simp); all_goals (with_reducible rfl))
        try simp only [Act.put, List.setIfInBounds_toArray, List.set_cons_zero, List.set_cons_succ]
        refine wpAnyH_take (i := 11) (oi := ?oi_k12) (v := ?v_k12) ?hi_k12 (by kernel_rfl) ?hf_k12 ?hr_k12 ?hQ_k12 (Or.inl ⟨?hw_k12, ?hy_k12⟩) (by assumption) ?rest_k12
        case hi_k12 => ((simp only [List.getElem?_toArray, List.getElem?_cons_succ, List.getElem?_cons_zero]); rfl)
        case hf_k12 => kernel_rfl
        case hr_k12 => kernel_rfl
        case hQ_k12 => exact fun _ _ _ h => h
        case hw_k12 => rfl
        case hy_k12 => ((intro w hSw; (try dsimp only at hSw); go_simp); all_goals (with_reducible rfl))
        try simp only [Act.put, List.setIfInBounds_toArray, List.set_cons_zero, List.set_cons_succ]
        refine wpAnyH_take (i := 12) (oi := ?oi_k13) (v := ?v_k13) ?hi_k13 (by kernel_rfl) ?hf_k13 ?hr_k13 ?hQ_k13 (Or.inl ⟨?hw_k13, ?hy_k13⟩) (by assumption) ?rest_k13
        case hi_k13 => ((simp only [List.getElem?_toArray, List.getElem?_cons_succ, List.getElem?_cons_zero]); rfl)
        case hf_k13 => kernel_rfl
        case hr_k13 => kernel_rfl
        case hQ_k13 => exact fun _ _ _ h => h
        case hw_k13 => rfl
        case hy_k13 => ((intro w hSw; (try dsimp only at hSw); go_simp); all_goals (with_reducible rfl))
        try simp only [Act.put, List.setIfInBounds_toArray, List.set_cons_zero, List.set_cons_succ]
        refine wpAnyH_take (i := 13) (oi := ?oi_k14) (v := ?v_k14) ?hi_k14 (by kernel_rfl) ?hf_k14 ?hr_k14 ?hQ_k14 (Or.inl ⟨?hw_k14, ?hy_k14⟩) (by assumption) ?rest_k14
        case hi_k14 => ((simp only [List.getElem?_toArray, List.getElem?_cons_succ, List.getElem?_cons_zero]); rfl)
        case hf_k14 => kernel_rfl
        case hr_k14 => kernel_rfl
        case hQ_k14 => exact fun _ _ _ h => h
        case hw_k14 => rfl
        case hy_k14 => ((intro w hSw; (try dsimp only at hSw); go_simp); all_goals (with_reducible rfl))
        try simp only [Act.put, List.setIfInBounds_toArray, List.set_cons_zero, List.set_cons_succ]
        refine wpAnyH_take (i := 14) (oi := ?oi_k15) (v := ?v_k15) ?hi_k15 (by kernel_rfl) ?hf_k15 ?hr_k15 ?hQ_k15 (Or.inl ⟨?hw_k15, ?hy_k15⟩) (by assumption) ?rest_k15
        case hi_k15 => ((simp only [List.getElem?_toArray, List.getElem?_cons_succ, List.getElem?_cons_zero]); rfl)
        case hf_k15 => kernel_rfl
        case hr_k15 => kernel_rfl
        case hQ_k15 => exact fun _ _ _ h => h
        case hw_k15 => rfl
        case hy_k15 => ((intro w hSw; (try dsimp only at hSw); go_simp); all_goals (with_reducible rfl))
        try simp only [Act.put, List.setIfInBounds_toArray, List.set_cons_zero, List.set_cons_succ]
        refine wpAnyH_take (i := 15) (oi := ?oi_k16) (v := ?v_k16) ?hi_k16 (by kernel_rfl) ?hf_k16 ?hr_k16 ?hQ_k16 (Or.inl ⟨?hw_k16, ?hy_k16⟩) (by assumption) ?rest_k16
        case hi_k16 => ((simp only [List.getElem?_toArray, List.getElem?_cons_succ, List.getElem?_cons_zero]); rfl)
        case hf_k16 => kernel_rfl
        case hr_k16 => kernel_rfl
        case hQ_k16 => exact fun _ _ _ h => h
        case hw_k16 => rfl
        case hy_k16 => ((intro w hSw; (try dsimp only at hSw); go_simp); all_goals (with_reducible rfl))
        try simp only [Act.put, List.setIfInBounds_toArray, List.set_cons_zero, List.set_cons_succ]
        refine wpAnyH_ready (rs := [16]) (by kernel_rfl) (by simp) ?_
        refine AllReadyH.cons (o := ?o1_k17) ?hi_k17 (fun K hK => ?rest_k17) AllReadyH.nil
        case hi_k17 => ((simp only [List.getElem?_toArray, List.getElem?_cons_succ, List.getElem?_cons_zero]); rfl)
        go_simp
        (go_at_call 34; (with_reducible refine (CC.out _ hHeld).mono ?_); rintro e wq16 ⟨v_, rfl, ho_, hbq⟩)
        have HO2 := Lib.hid (OwnR.mono ho_ (belStep HBR.out hHeld).size)
        clear ho_
        have hu16 : Below wr.heap.size wr wq16 := belStep hHeld hbq
        clear hbq
        try go_simp
        refine hK.out _ _ (by exact hu16) (fun hHeld => ?_)
        clear hK K
        try simp only [Act.put, List.setIfInBounds_toArray, List.set_cons_zero, List.set_cons_succ]
        refine wpAnyH_take (i := 17) (oi := ?oi_k18) (v := ?v_k18) ?hi_k18 (by kernel_rfl) ?hf_k18 ?hr_k18 ?hQ_k18 (Or.inl ⟨?hw_k18, ?hy_k18⟩) (by assumption) ?rest_k18
        case hi_k18 => ((simp only [List.getElem?_toArray, List.getElem?_cons_succ, List.getElem?_cons_zero]); rfl)
        case hf_k18 => kernel_rfl
        case hr_k18 => kernel_rfl
        case hQ_k18 => exact fun _ _ _ h => h
        case hw_k18 => rfl
        case hy_k18 => ((intro w hSw; (try dsimp only at hSw); go_simp); all_goals (with_reducible rfl))
        try simp only [Act.put, List.setIfInBounds_toArray, List.set_cons_zero, List.set_cons_succ]
        refine wpAnyH_done (by kernel_rfl) ?_ _
        go_wp2
        go_roundw
        case rel => exact ⟨k + 1, by omega, by push_cast; rfl, by rw [HN2.out]; exact HO2.out, belStep HBR.out hHeld⟩
        case measure => simp [intOf] <;> omega
      · have d0 : (x.op == (0 : Int)) = false := by rw [beq_eq_false_iff_ne]; exact ho0
        by_cases ho1 : x.op = 1
        · have d1 : (x.op == (1 : Int)) = true := by rw [ho1]; rfl
          have HN2 := Lib.hid (HN.out.trans (show stepA M x = touchI M x.U x.round by unfold stepA; rw [if_neg ho0, if_pos ho1]))
          have CC := Lib.hid (fun u (hu : Below wr.heap.size wr u) => iref_Touch ma M.length mc M x.ua x.un x.uc x.U x.round u rfl (HM.out.later hu) HUN.out (HRU.out.later hu) (by omega))
          go_upto_region 8 with fail
          refine wp_region_held_drew (S := fun u => Below wr.heap.size wr u) (by kernel_rfl) (by exact (show Below wr.heap.size wr _ by repeat (first | assumption | exact Below.refl _ _ | refine belDrew ?_ | refine belAlloc ?_ _ | refine belStep ?_ (by assumption)))) (fun hHeld => ?_)
          refine wpAnyH_take (i := 0) (oi := ?oi_k19) (v := ?v_k19) ?hi_k19 (by kernel_rfl) ?hf_k19 ?hr_k19 ?hQ_k19 (Or.inl ⟨?hw_k19, ?hy_k19⟩) (by assumption) ?rest_k19
          case hi_k19 => ((simp only [List.getElem?_toArray, List.getElem?_cons_succ, List.getElem?_cons_zero]); rfl)
          case hf_k19 => kernel_rfl
          case hr_k19 => kernel_rfl
          case hQ_k19 => exact fun _ _ _ h => h
          case hw_k19 => rfl
          case hy_k19 => ((intro w hSw; (try dsimp only at hSw); go_simp); all_goals (with_reducible rfl))
          try simp only [Act.put, List.setIfInBounds_toArray, List.set_cons_zero, List.set_cons_succ]
          refine wpAnyH_take (i := 1) (oi := ?oi_k20) (v := ?v_k20) ?hi_k20 (by kernel_rfl) ?hf_k20 ?hr_k20 ?hQ_k20 (Or.inl ⟨?hw_k20, ?hy_k20⟩) (by assumption) ?rest_k20
          case hi_k20 => ((simp only [List.getElem?_toArray, List.getElem?_cons_succ, List.getElem?_cons_zero]); rfl)
          case hf_k20 => kernel_rfl
          case hr_k20 => kernel_rfl
          case hQ_k20 => exact fun _ _ _ h => h
          case hw_k20 => rfl
          case hy_k20 => ((intro w hSw; (try dsimp only at hSw); go_simp); all_goals (with_reducible rfl))
          try simp only [Act.put, List.setIfInBounds_toArray, List.set_cons_zero, List.set_cons_succ]
          refine wpAnyH_take (i := 2) (oi := ?oi_k21) (v := ?v_k21) ?hi_k21 (by kernel_rfl) ?hf_k21 ?hr_k21 ?hQ_k21 (Or.inl ⟨?hw_k21, ?hy_k21⟩) (by assumption) ?rest_k21
          case hi_k21 => ((simp only [List.getElem?_toArray, List.getElem?_cons_succ, List.getElem?_cons_zero]); rfl)
          case hf_k21 => kernel_rfl
          case hr_k21 => kernel_rfl
          case hQ_k21 => exact fun _ _ _ h => h
          case hw_k21 => rfl
          case hy_k21 => ((intro w hSw; (try dsimp only at hSw); go_simp); all_goals (with_reducible rfl))
          try simp only [Act.put, List.setIfInBounds_toArray, List.set_cons_zero, List.set_cons_succ]
          refine wpAnyH_take (i := 3) (oi := ?oi_k22) (v := ?v_k22) ?hi_k22 (by kernel_rfl) ?hf_k22 ?hr_k22 ?hQ_k22 (Or.inl ⟨?hw_k22, ?hy_k22⟩) (by assumption) ?rest_k22
          case hi_k22 => ((simp only [List.getElem?_toArray, List.getElem?_cons_succ, List.getElem?_cons_zero]); rfl)
          case hf_k22 => kernel_rfl
          case hr_k22 => kernel_rfl
          case hQ_k22 => exact fun _ _ _ h => h
          case hw_k22 => rfl
          case hy_k22 => ((intro w hSw; (try dsimp only at hSw); go_simp); all_goals (with_reducible rfl))
          try simp only [Act.put, List.setIfInBounds_toArray, List.set_cons_zero, List.set_cons_succ]
          refine wpAnyH_take (i := 4) (oi := ?oi_k23) (v := ?v_k23) ?hi_k23 (by kernel_rfl) ?hf_k23 ?hr_k23 ?hQ_k23 (Or.inl ⟨?hw_k23, ?hy_k23⟩) (by assumption) ?rest_k23
          case hi_k23 => ((simp only [List.getElem?_toArray, List.getElem?_cons_succ, List.getElem?_cons_zero]); rfl)
          case hf_k23 => kernel_rfl
          case hr_k23 => kernel_rfl
          case hQ_k23 => exact fun _ _ _ h => h
          case hw_k23 => rfl
          case hy_k23 => ((intro w hSw; (try dsimp only at hSw); go_simp); all_goals (with_reducible rfl))
          try simp only [Act.put, List.setIfInBounds_toArray, List.set_cons_zero, List.set_cons_succ]
          refine wpAnyH_take (i := 5) (oi := ?oi_k24) (v := ?v_k24) ?hi_k24 (by kernel_rfl) ?hf_k24 ?hr_k24 ?hQ_k24 (Or.inl ⟨?hw_k24, ?hy_k24⟩) (by assumption) ?rest_k24
          case hi_k24 => ((simp only [List.getElem?_toArray, List.getElem?_cons_succ, List.getElem?_cons_zero]); rfl)
          case hf_k24 => kernel_rfl
          case hr_k24 => kernel_rfl
          case hQ_k24 => exact fun _ _ _ h => h
          case hw_k24 => rfl
          case hy_k24 => ((intro w hSw; (try dsimp only at hSw); go_simp); all_goals (with_reducible rfl))
          try simp only [Act.put, List.setIfInBounds_toArray, List.set_cons_zero, List.set_cons_succ]
          refine wpAnyH_take (i := 6) (oi := ?oi_k25) (v := ?v_k25) ?hi_k25 (by kernel_rfl) ?hf_k25 ?hr_k25 ?hQ_k25 (Or.inl ⟨?hw_k25, ?hy_k25⟩) (by assumption) ?rest_k25
          case hi_k25 => ((simp only [List.getElem?_toArray, List.getElem?_cons_succ, List.getElem?_cons_zero]); rfl)
          case hf_k25 => kernel_rfl
          case hr_k25 => kernel_rfl
          case hQ_k25 => exact fun _ _ _ h => h
          case hw_k25 => rfl
          case hy_k25 => ((intro w hSw; (try dsimp only at hSw); go_simp); all_goals (with_reducible rfl))
          try simp only [Act.put, List.setIfInBounds_toArray, List.set_cons_zero, List.set_cons_succ]
          refine wpAnyH_take (i := 7) (oi := ?oi_k26) (v := ?v_k26) ?hi_k26 (by kernel_rfl) ?hf_k26 ?hr_k26 ?hQ_k26 (Or.inl ⟨?hw_k26, ?hy_k26⟩) (by assumption) ?rest_k26
          case hi_k26 => ((simp only [List.getElem?_toArray, List.getElem?_cons_succ, List.getElem?_cons_zero]); rfl)
          case hf_k26 => kernel_rfl
          case hr_k26 => kernel_rfl
          case hQ_k26 => exact fun _ _ _ h => h
          case hw_k26 => rfl
          case hy_k26 => ((intro w hSw; (try dsimp only at hSw); go_simp); all_goals (with_reducible rfl))
          try simp only [Act.put, List.setIfInBounds_toArray, List.set_cons_zero, List.set_cons_succ]
          refine wpAnyH_take (i := 8) (oi := ?oi_k27) (v := ?v_k27) ?hi_k27 (by kernel_rfl) ?hf_k27 ?hr_k27 ?hQ_k27 (Or.inl ⟨?hw_k27, ?hy_k27⟩) (by assumption) ?rest_k27
          case hi_k27 => ((simp only [List.getElem?_toArray, List.getElem?_cons_succ, List.getElem?_cons_zero]); rfl)
          case hf_k27 => kernel_rfl
          case hr_k27 => kernel_rfl
          case hQ_k27 => exact fun _ _ _ h => h
          case hw_k27 => rfl
          case hy_k27 => ((intro w hSw; (try dsimp only at hSw); go_simp); all_goals (with_reducible rfl))
          try simp only [Act.put, List.setIfInBounds_toArray, List.set_cons_zero, List.set_cons_succ]
          refine wpAnyH_take (i := 9) (oi := ?oi_k28) (v := ?v_k28) ?hi_k28 (by kernel_rfl) ?hf_k28 ?hr_k28 ?hQ_k28 (Or.inl ⟨?hw_k28, ?hy_k28⟩) (by assumption) ?rest_k28
          case hi_k28 => ((simp only [List.getElem?_toArray, List.getElem?_cons_succ, List.getElem?_cons_zero]); rfl)
          case hf_k28 => kernel_rfl
          case hr_k28 => kernel_rfl
          case hQ_k28 => exact fun _ _ _ h => h
          case hw_k28 => rfl
          case hy_k28 => ((intro w hSw; (try dsimp only at hSw); go_simp); all_goals (with_reducible rfl))
          try simp only [Act.put, List.setIfInBounds_toArray, List.set_cons_zero, List.set_cons_succ]
          refine wpAnyH_take (i := 10) (oi := ?oi_k29) (v := ?v_k29) ?hi_k29 (by kernel_rfl) ?hf_k29 ?hr_k29 ?hQ_k29 (Or.inl ⟨?hw_k29, ?hy_k29⟩) (by assumption) ?rest_k29
          case hi_k29 => ((simp only [List.getElem?_toArray, List.getElem?_cons_succ, List.getElem?_cons_zero]); rfl)
          case hf_k29 => kernel_rfl
          case hr_k29 => kernel_rfl
          case hQ_k29 => exact fun _ _ _ h => h
          case hw_k29 => rfl
          case hy_k29 => ((intro w hSw; (try dsimp only at hSw); go_simp); all_goals (with_reducible rfl))
          try simp only [Act.put, List.setIfInBounds_toArray, List.set_cons_zero, List.set_cons_succ]
          refine wpAnyH_ready (rs := [11]) (by kernel_rfl) (by simp) ?_
          refine AllReadyH.cons (o := ?o1_k30) ?hi_k30 (fun K hK => ?rest_k30) AllReadyH.nil
          case hi_k30 => ((simp only [List.getElem?_toArray, List.getElem?_cons_succ, List.getElem?_cons_zero]); rfl)
          go_simp
          (go_at_call 35; (with_reducible refine (CC.out _ hHeld).mono ?_); rintro e wq11 ⟨v_, rfl, ho_, hbq⟩)
          have HO2 := Lib.hid (OwnR.mono ho_ (belStep HBR.out hHeld).size)
          clear ho_
          have hu11 : Below wr.heap.size wr wq11 := belStep hHeld hbq
          clear hbq
          try go_simp
          refine hK.out _ _ (by exact hu11) (fun hHeld => ?_)
          clear hK K
          try simp only [Act.put, List.setIfInBounds_toArray, List.set_cons_zero, List.set_cons_succ]
          refine wpAnyH_take (i := 12) (oi := ?oi_k31) (v := ?v_k31) ?hi_k31 (by kernel_rfl) ?hf_k31 ?hr_k31 ?hQ_k31 (Or.inl ⟨?hw_k31, ?hy_k31⟩) (by assumption) ?rest_k31
          case hi_k31 => ((simp only [List.getElem?_toArray, List.getElem?_cons_succ, List.getElem?_cons_zero]); rfl)
          case hf_k31 => kernel_rfl
          case hr_k31 => kernel_rfl
          case hQ_k31 => exact fun _ _ _ h => h
          case hw_k31 => rfl
          case hy_k31 => ((intro w hSw; (try dsimp only at hSw); go_simp); all_goals (with_reducible rfl))
          try simp only [Act.put, List.setIfInBounds_toArray, List.set_cons_zero, List.set_cons_succ]
          refine wpAnyH_done (by kernel_rfl) ?_ _
          go_wp2
          go_roundw
          case rel => exact ⟨k + 1, by omega, by push_cast; rfl, by rw [HN2.out]; exact HO2.out, belStep HBR.out hHeld⟩
          case measure => simp [intOf] <;> omega
        · have d1 : (x.op == (1 : Int)) = false := by rw [beq_eq_false_iff_ne]; exact ho1
          have HN2 := Lib.hid (HN.out.trans (show stepA M x = dropI M x.name by unfold stepA; rw [if_neg ho0, if_neg ho1]))
          have CC := Lib.hid (fun u (hu : Below wr.heap.size wr u) => iref_Drop ma M.length mc M x.name u rfl (HM.out.later hu) (by omega))
          go_wp2_with (go_at_call 36; (with_reducible refine (CC.out _ hbel).mono ?_); rintro e w7 ⟨v_, rfl, ho_, hb7⟩; have HO2 := Lib.hid (OwnR.mono ho_ (belStep HBR.out hbel).size); have HB7 := Lib.hid (belStep hbel hb7); clear ho_ hb7)
          go_roundw
          case rel => exact ⟨k + 1, by omega, by push_cast; rfl, by rw [HN2.out]; exact HO2.out, belStep HBR.out HB7.out⟩
          case measure => simp [intOf] <;> omega
    · obtain rfl : k = L.length := by omega
      have hd : decide ((L.length : Int) < (L.length : Int)) = false := decide_eq_false (by omega)
      rw [List.take_length] at hO
      go_wp2
      go_ret
      exact ⟨_, rfl, hO, hbr⟩
end Go.Proofs.Ytmmfkgpckohacaa
