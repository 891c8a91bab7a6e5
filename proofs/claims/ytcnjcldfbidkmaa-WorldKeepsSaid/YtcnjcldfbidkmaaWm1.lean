
/- Stage 16: a reader for acts; few: contract. -/
import Derived.Test.YtcnjcldfbidkmaaWr1
namespace Go.Proofs.Ytcnjcldfbidkmaa
open Go.RowKit Go.Sort
set_option linter.unusedVariables false
set_option linter.unusedSimpArgs false
structure ActW where
  op : Int
  wa : Option Addr
  wn : Nat
  wc : Nat
  V : List Bool
  id : ByteArray
  what : Int
  name : ByteArray
  size : Int
  round : Int
  ua : Option Addr
  un : Nat
  uc : Nat
  U : List ByteArray
def ActW.cells (x : ActW) : List Value := [.int .i64 x.op, .slice x.wa x.wn x.wc, .string x.id, .int .i64 x.what, .string x.name, .int .i64 x.size, .int .i64 x.round, .slice x.ua x.un x.uc]
theorem ActW.cells_len (x : ActW) : x.cells.length = 8 := rfl
/-- What an act holds, in a world: its own numbers, and what lies behind it. -/
def ActW.good (W : World) (x : ActW) : Prop := (InI x.op ∧ x.id.size ≤ maxLen ∧ InI x.what ∧ x.name.size ≤ maxLen ∧ InI x.size ∧ InI x.round ∧ x.V.length = x.wn ∧ x.U.length = x.un ∧ ∀ s ∈ x.U, s.size ≤ maxLen) ∧ Row W x.wa x.wn x.wc 1 (x.V.map Value.bool) ∧ Row W x.ua x.un x.uc 1 (x.U.map Value.string)
theorem list8w {l : List Value} (h : l.length = 8) : ∃ a b c d e f g i, l = [a, b, c, d, e, f, g, i] := by
  match l, h with
  | [a, b, c, d, e, f, g, i], _ => exact ⟨_, _, _, _, _, _, _, _, rfl⟩
theorem rd_tsl {w : World} {g : Value} (h : Rd Try.prog w 34 [g]) : ∃ ta tl tc, g = .slice ta tl tc := by
  rcases Rd.slice Try.underlying34 h with h0 | ⟨ad, len, cap, h1, _⟩
  · simp at h0; exact ⟨_, _, _, h0⟩
  · simp at h1; exact ⟨_, _, _, h1⟩
theorem rd_bsl {w : World} {g : Value} (h : Rd Try.prog w 27 [g]) : ∃ ta tl tc, g = .slice ta tl tc := by
  rcases Rd.slice Try.underlying27 h with h0 | ⟨ad, len, cap, h1, _⟩
  · simp at h0; exact ⟨_, _, _, h0⟩
  · simp at h1; exact ⟨_, _, _, h1⟩
theorem flat_bool (G : List Bool) : G.flatMap (fun s => [Value.bool s]) = G.map Value.bool := by
  induction G with
  | nil => rfl
  | cons x l ih => simp only [List.flatMap_cons, List.map_cons, ih]; rfl
theorem rd_actW {w : World} {cs : List Value} (h : Rd Try.prog w 36 cs) : ∃ x : ActW, cs = x.cells ∧ x.good w := by
  obtain ⟨hl, hf⟩ := Rd.struct Try.underlying36 h
  rw [show Try.prog.cellsOf 36 = 8 by kernel_rfl] at hl
  obtain ⟨a, b, c, d, e, f, g, i, rfl⟩ := list8w hl
  have h0 := hf 0 _ rfl
  have h1 := hf 1 _ rfl
  have h2 := hf 2 _ rfl
  have h3 := hf 3 _ rfl
  have h4 := hf 4 _ rfl
  have h5 := hf 5 _ rfl
  have h6 := hf 6 _ rfl
  have h7 := hf 7 _ rfl
  simp [show Try.prog.cellsOf 3 = 1 by kernel_rfl, show Try.prog.cellsOf 9 = 1 by kernel_rfl, show Try.prog.cellsOf 34 = 1 by kernel_rfl, show Try.prog.cellsOf 27 = 1 by kernel_rfl] at h0 h1 h2 h3 h4 h5 h6 h7
  obtain ⟨o, e0, w0⟩ := Rd.int Try.underlying3 h0
  obtain ⟨va, vl, vc, rfl⟩ := rd_bsl h1
  obtain ⟨V, v1, v2, v3⟩ := Rd.rows (fun s : Bool => [Value.bool s]) 1 Try.underlying27 (by kernel_rfl) (by omega) (fun _ => rfl) (fun _ => True) (fun es hes => by obtain ⟨b, hb⟩ := Rd.bool Try.underlying4 hes; exact ⟨b, hb, trivial⟩) h1
  obtain ⟨s, e2, w2⟩ := Rd.string Try.underlying9 h2
  obtain ⟨k, e3, w3⟩ := Rd.int Try.underlying3 h3
  obtain ⟨t, e4, w4⟩ := Rd.string Try.underlying9 h4
  obtain ⟨m, e5, w5⟩ := Rd.int Try.underlying3 h5
  obtain ⟨n, e6, w6⟩ := Rd.int Try.underlying3 h6
  obtain ⟨ta, tl, tc, rfl⟩ := rd_tsl h7
  obtain ⟨G, g1, g2, g3⟩ := Rd.rows (fun s : ByteArray => [Value.string s]) 1 Try.underlying34 (by kernel_rfl) (by omega) (fun _ => rfl) (fun s => s.size ≤ maxLen) (fun es hes => Rd.string Try.underlying9 hes) h7
  simp at e0 e2 e3 e4 e5 e6
  subst e0 e2 e3 e4 e5 e6
  exact ⟨⟨o, va, vl, vc, V, s, k, t, m, n, ta, tl, tc, G⟩, rfl, ⟨inI_of_wf w0, w2, inI_of_wf w3, w4, inI_of_wf w5, inI_of_wf w6, v1, g1, g2⟩, by rw [flat_bool] at v3; exact v3, by rw [flat_text] at g3; exact g3⟩
set_option maxRecDepth 100000 in
theorem open_actsW {H : Type} {enc : TypeId × Value → H} {W : World} {v : Value} {b : Nat} {d : DataW H} {p : List MemPlace} (o : Value.okWide Try.prog W .any b 22 v) (h : DataW.Trod enc Try.prog W 0 (fun _ => true) true 22 v d p) :
    ∃ (a : Option Addr) (len cap : Nat) (L : List ActW), v = .slice a len cap ∧ L.length = len ∧ (∀ x ∈ L, x.good W) ∧ Row W a len cap 8 (L.flatMap ActW.cells) := by
  obtain ⟨a, len, cap, rfl⟩ := slice_of_ok Try.underlying22 o
  obtain ⟨L, h1, h2, h3⟩ := Rd.rows ActW.cells 8 Try.underlying22 (by kernel_rfl) (by omega) ActW.cells_len (ActW.good W) (fun es hes => rd_actW hes) (Rd.of h)
  exact ⟨a, len, cap, L, rfl, h1, h2, h3⟩
def actWB (x : ActW) : Bool := ((((decide (x.id.size ≤ 60) && decide (x.name.size ≤ 60)) && decide (x.wn ≤ 3000)) && fewT x.U) && decide (0 ≤ x.size)) && decide (0 ≤ x.round)
def fewW (L : List ActW) : Bool := (L.take 100).all actWB && decide (L.length ≤ 50)
theorem fewW_len {L : List ActW} (h : fewW L = true) : L.length ≤ 50 := by unfold fewW at h; rw [Bool.and_eq_true] at h; exact of_decide_eq_true h.2
set_option maxRecDepth 100000 in
set_option maxHeartbeats 16000000 in
theorem law16_few (a : Option Addr) (len cap : Nat) (L : List ActW) (w : World) (hl : L.length = len) (hR : Row w a len cap 8 (L.flatMap ActW.cells)) (hg : ∀ x ∈ L, x.good w) :
    Calls Try.prog 17 #[.slice a len cap] w fun e w' => e = .returned (.bool (fewW L)) ∧ Below w.heap.size w w' := by
  have hw : Below w.heap.size w w := Below.refl _ _
  have hbd_a : len ≤ cap ∧ cap ≤ 9223372036854775807 := by obtain ⟨_, h1, h2, _⟩ := hR; unfold maxLen at h2; exact ⟨h1, h2⟩
  obtain ⟨hbd1_a, hbd2_a⟩ := hbd_a
  have HR := Lib.hid hR
  clear hR
  subst hl
  have HG := Lib.hid hg
  clear hg
  go_enter Try.func17, Try.ntmps17
  go_wp2
  go_loopw [3] (fun i wr => ∃ k : Nat, k ≤ L.length ∧ k ≤ 100 ∧ i = .int .i64 k ∧ Hid ((L.take k).all actWB = true) ∧ Below w.heap.size w wr) (fun i _ => L.length - (intOf i).toNat)
  case atStart => exact ⟨0, Nat.zero_le _, by omega, rfl, Lib.hid rfl, hw⟩
  case round =>
    clear hw
    obtain ⟨k, hk, hk2, rfl, HC, hbel⟩ := hrel
    by_cases hlt2 : k < min L.length 100
    · have hlt : k < L.length := by omega
      have hd : decide ((k : Int) < (L.length : Int)) = true := decide_eq_true (by omega)
      have hki : (k : Int) < (L.length : Int) := by omega
      have hk0 : (0 : Int) ≤ (k : Int) := by omega
      have hd2 : decide ((k : Int) < 100) = true := decide_eq_true (by omega)
      have hd3 : (k : Int) < 100 := by omega
      obtain ⟨x, hx⟩ : ∃ x, L[k]? = some x := ⟨L[k], List.getElem?_eq_getElem hlt⟩
      obtain ⟨bc, oc, ec, _, hcc⟩ := (HR.out).elem ActW.cells_len (by omega) hx
      subst ec
      have c0 := keep (hcc 0 _ rfl)
      have c1 := keep (hcc 1 _ rfl)
      have c2 := keep (hcc 2 _ rfl)
      have c3 := keep (hcc 3 _ rfl)
      have c4 := keep (hcc 4 _ rfl)
      have c5 := keep (hcc 5 _ rfl)
      have c6 := keep (hcc 6 _ rfl)
      have c7 := keep (hcc 7 _ rfl)
      rw [Nat.add_zero] at c0
      have HX := Lib.hid hx
      obtain ⟨⟨_, hi9, _, hsz, _, _, _, hul, huk⟩, hRV, hRU⟩ := HG.out _ (List.mem_of_getElem? hx)
      have hsz0 : x.name.size ≤ 9223372036854775807 := by unfold maxLen at hsz; omega
      have hsz1 : x.id.size ≤ 9223372036854775807 := by unfold maxLen at hi9; omega
      have hwn : x.wn ≤ x.wc ∧ x.wc ≤ 9223372036854775807 := by obtain ⟨_, h1, h2, _⟩ := hRV; unfold maxLen at h2; exact ⟨h1, h2⟩
      obtain ⟨hwn1, hwn2⟩ := hwn
      obtain ⟨nm, hnm⟩ : ∃ q, fewT x.U = q := ⟨_, rfl⟩
      have CNM := Lib.hid (fun u (hu : Below w.heap.size w u) => hnm ▸ iref_Names x.ua x.un x.uc x.U u hul (hRU.later hu) huk)
      have HNM := Lib.hid hnm
      clear hx hcc hsz hi9 hul huk hRU hRV hnm
      by_cases hqa : 60 < x.id.size
      · have ea1 : decide ((60 : Int) < (x.id.size : Int)) = true := decide_eq_true (by omega)
        have ea2 : (60 : Int) < (x.id.size : Int) := by omega
        have HN := Lib.hid (show fewW L = false by unfold fewW; rw [allG_not HX.out (show actWB x = false by unfold actWB; rw [decide_eq_false (show ¬ x.id.size ≤ 60 by omega)]; simp) (show k < 100 by omega)]; rfl)
        go_wp2
        go_ret
        exact ⟨by rw [HN.out]; rfl, hbel⟩
      · have ea1 : decide ((60 : Int) < (x.id.size : Int)) = false := decide_eq_false (by omega)
        have ea2 : ¬ (60 : Int) < (x.id.size : Int) := by omega
        by_cases hqb : 60 < x.name.size
        · have eb1 : decide ((60 : Int) < (x.name.size : Int)) = true := decide_eq_true (by omega)
          have eb2 : (60 : Int) < (x.name.size : Int) := by omega
          have HN := Lib.hid (show fewW L = false by unfold fewW; rw [allG_not HX.out (show actWB x = false by unfold actWB; rw [decide_eq_false (show ¬ x.name.size ≤ 60 by omega)]; simp) (show k < 100 by omega)]; rfl)
          go_wp2
          go_ret
          exact ⟨by rw [HN.out]; rfl, hbel⟩
        · have eb1 : decide ((60 : Int) < (x.name.size : Int)) = false := decide_eq_false (by omega)
          have eb2 : ¬ (60 : Int) < (x.name.size : Int) := by omega
          by_cases hqc : 3000 < x.wn
          · have ec1 : decide ((3000 : Int) < (x.wn : Int)) = true := decide_eq_true (by omega)
            have ec2 : (3000 : Int) < (x.wn : Int) := by omega
            have HN := Lib.hid (show fewW L = false by unfold fewW; rw [allG_not HX.out (show actWB x = false by unfold actWB; rw [decide_eq_false (show ¬ x.wn ≤ 3000 by omega)]; simp) (show k < 100 by omega)]; rfl)
            go_wp2
            go_ret
            exact ⟨by rw [HN.out]; rfl, hbel⟩
          · have ec1 : decide ((3000 : Int) < (x.wn : Int)) = false := decide_eq_false (by omega)
            have ec2 : ¬ (3000 : Int) < (x.wn : Int) := by omega
            cases nm with
            | false =>
              have HN := Lib.hid (show fewW L = false by unfold fewW; rw [allG_not HX.out (show actWB x = false by unfold actWB; rw [HNM.out]; simp) (show k < 100 by omega)]; rfl)
              go_wp2_with (go_at_call 57; (with_reducible refine (CNM.out _ hbel).mono ?_); rintro e wn ⟨rfl, hb_⟩; have hbz := belStep hbel hb_; clear hbel; have hbel := hbz; clear hbz hb_)
              go_ret
              exact ⟨by rw [HN.out]; rfl, hbel⟩
            | true =>
              by_cases hs : x.size < 0
              · have d3 : decide (x.size < (0 : Int)) = true := decide_eq_true hs
                have HN := Lib.hid (show fewW L = false by unfold fewW; rw [allG_not HX.out (show actWB x = false by unfold actWB; rw [show decide (0 ≤ x.size) = false from decide_eq_false (by omega)]; simp) (show k < 100 by omega)]; rfl)
                go_wp2_with (go_at_call 57; (with_reducible refine (CNM.out _ hbel).mono ?_); rintro e wn ⟨rfl, hb_⟩; have hbz := belStep hbel hb_; clear hbel; have hbel := hbz; clear hbz hb_)
                go_ret
                exact ⟨by rw [HN.out]; rfl, hbel⟩
              · have d3 : decide (x.size < (0 : Int)) = false := decide_eq_false hs
                by_cases hz : x.round < 0
                · have d4 : decide (x.round < (0 : Int)) = true := decide_eq_true hz
                  have HN := Lib.hid (show fewW L = false by unfold fewW; rw [allG_not HX.out (show actWB x = false by unfold actWB; rw [show decide (0 ≤ x.round) = false from decide_eq_false (by omega)]; simp) (show k < 100 by omega)]; rfl)
                  go_wp2_with (go_at_call 57; (with_reducible refine (CNM.out _ hbel).mono ?_); rintro e wn ⟨rfl, hb_⟩; have hbz := belStep hbel hb_; clear hbel; have hbel := hbz; clear hbz hb_)
                  go_ret
                  exact ⟨by rw [HN.out]; rfl, hbel⟩
                · have d4 : decide (x.round < (0 : Int)) = false := decide_eq_false hz
                  have HN := Lib.hid (show (L.take (k + 1)).all actWB = true by rw [allG_next HX.out, HC.out, show actWB x = true by unfold actWB; rw [decide_eq_true (show x.id.size ≤ 60 by omega), decide_eq_true (show x.name.size ≤ 60 by omega), decide_eq_true (show x.wn ≤ 3000 by omega), HNM.out, show decide (0 ≤ x.size) = true from decide_eq_true (by omega), show decide (0 ≤ x.round) = true from decide_eq_true (by omega)]; rfl]; rfl)
                  go_wp2_with (go_at_call 57; (with_reducible refine (CNM.out _ hbel).mono ?_); rintro e wn ⟨rfl, hb_⟩; have hbz := belStep hbel hb_; clear hbel; have hbel := hbz; clear hbz hb_)
                  go_roundw
                  case rel => exact ⟨k + 1, by omega, by omega, by push_cast; rfl, HN, hbel⟩
                  case measure => simp [intOf] <;> omega
    · obtain rfl : k = min L.length 100 := by omega
      by_cases h100 : L.length < 100
      · have hmi : min L.length 100 = L.length := by omega
        rw [hmi] at HC ⊢
        have HF := Lib.hid (show fewW L = decide (L.length ≤ 50) by unfold fewW; rw [List.take_of_length_le (by omega)]; rw [List.take_length] at HC; rw [HC.out]; rfl)
        have hd : decide ((L.length : Int) < (L.length : Int)) = false := decide_eq_false (by omega)
        have k10 : decide ((L.length : Int) ≤ 50) = decide (L.length ≤ 50) := decide_eq_decide.2 (by omega)
        go_wp2
        go_ret
        exact ⟨by rw [HF.out]; first | rfl | (rw [← k10]; rfl), hbel⟩
      · have hmi : min L.length 100 = 100 := by omega
        rw [hmi] at HC ⊢
        have HF := Lib.hid (show fewW L = false by unfold fewW; rw [show decide (L.length ≤ 50) = false from decide_eq_false (by omega), Bool.and_false])
        have k10 : decide ((L.length : Int) ≤ 50) = false := decide_eq_false (by omega)
        have k11 : ¬ (L.length : Int) ≤ 50 := by omega
        by_cases h9 : L.length = 100
        · have hd : decide (((100 : Nat) : Int) < (L.length : Int)) = false := decide_eq_false (by omega)
          have hd4 : decide ((100 : Int) < (L.length : Int)) = false := decide_eq_false (by omega)
          go_wp2
          go_ret
          exact ⟨by rw [HF.out]; rfl, hbel⟩
        · have hd : decide (((100 : Nat) : Int) < (L.length : Int)) = true := decide_eq_true (by omega)
          have hd4 : decide ((100 : Int) < (L.length : Int)) = true := decide_eq_true (by omega)
          have hd5 : (100 : Int) < (L.length : Int) := by omega
          go_wp2
          go_ret
          exact ⟨by rw [HF.out]; rfl, hbel⟩
end Go.Proofs.Ytcnjcldfbidkmaa
