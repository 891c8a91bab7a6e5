
/- Tables of pods (taken out of stages 21 and 23). -/
import Derived.Test.YtcgpmihjodolmaaAwake17
namespace Go.Proofs.Ytcgpmihjodolmaa
open Go.ChangeShapes Go.WideShapes Go.ChangeAt Go.RowKit
set_option linter.unusedVariables false
set_option linter.unusedSimpArgs false
theorem str_ext {s t : ByteArray} (h : s.toList = t.toList) : s = t := by
  rw [ByteArray.toList_eq, ByteArray.toList_eq] at h
  cases s; cases t
  simp only at h
  congr 1
  exact Array.toList_inj.1 h
/-- No two of one name. -/
def Dist (L : List PodV) : Prop := L.Pairwise (fun a b => a.id ≠ b.id)
theorem Dist.mem {L : List PodV} (h : Dist L) : ∀ {x y : PodV}, x ∈ L → y ∈ L → x.id = y.id → x = y := by
  induction L with
  | nil => intro x y hx; cases hx
  | cons a L ih =>
    intro x y hx hy e
    obtain ⟨h1, h2⟩ := List.pairwise_cons.1 h
    rcases List.mem_cons.1 hx with ex | hx2
    · rcases List.mem_cons.1 hy with ey | hy2
      · rw [ex, ey]
      · exact absurd (ex ▸ e) (h1 y hy2)
    · rcases List.mem_cons.1 hy with ey | hy2
      · exact absurd (ey ▸ e.symm) (h1 x hx2)
      · exact ih h2 hx2 hy2 e
theorem Dist.sub {L M : List PodV} (h : Dist L) (hs : M.Sublist L) : Dist M := List.Pairwise.sublist hs h
theorem Dist.perm {L M : List PodV} (h : Dist L) (hp : L.Perm M) : Dist M := hp.pairwise h (fun {a b} k e => k e.symm)
theorem dist_all {L : List PodV} {p : PodV} (hd : Dist L) (hn : ∀ x ∈ L, x.id ≠ p.id) : Dist (L ++ [p]) := by
  unfold Dist at *
  rw [List.pairwise_append]
  exact ⟨hd, by simp, fun a ha b hb => by simp at hb; subst hb; exact hn a ha⟩
theorem id_bne {x y : PodV} (h : (x.id.toList == y.id.toList) = false) : x.id ≠ y.id := fun e => by rw [e] at h; simp at h
structure EntV where
  pod : PodV
  phase : Int
def EntV.cells (x : EntV) : List Value := [.string x.pod.id, .int .i64 x.pod.prio, .bool x.pod.crit, .int .i64 x.pod.r0, .int .i64 x.pod.r1, .int .i64 x.pod.r2, .int .i64 x.pod.l0, .int .i64 x.pod.l1, .int .i64 x.pod.l2, .string x.pod.img, .int .i64 x.pod.size, .int .i64 x.phase]
theorem EntV.cells_len (x : EntV) : x.cells.length = 12 := rfl
def EntV.ok (x : EntV) : Prop := x.pod.ok ∧ InI x.phase
theorem list12 {l : List Value} (h : l.length = 12) : ∃ a b c d e f g i j k m n, l = [a, b, c, d, e, f, g, i, j, k, m, n] := by
  match l, h with
  | [a, b, c, d, e, f, g, i, j, k, m, n], _ => exact ⟨_, _, _, _, _, _, _, _, _, _, _, _, rfl⟩
theorem rd_ent {w : World} {cs : List Value} (h : Rd Try.prog w 66 cs) : ∃ x : EntV, cs = x.cells ∧ x.ok := by
  obtain ⟨hl, hf⟩ := Rd.struct Try.underlying66 h
  rw [show Try.prog.cellsOf 66 = 12 by kernel_rfl] at hl
  obtain ⟨a, b, c, d, e, f, g, i, j, k, m, n, rfl⟩ := list12 hl
  have h0 := hf 0 _ rfl
  have h1 := hf 1 _ rfl
  simp [show Try.prog.cellsOf 62 = 11 by kernel_rfl, show Try.prog.cellsOf 3 = 1 by kernel_rfl] at h0 h1
  obtain ⟨p, ep, hp⟩ := rd_pod h0
  obtain ⟨ph, e1, w1⟩ := Rd.int Try.underlying3 h1
  simp at e1
  subst e1
  unfold PodV.cells at ep
  simp only [List.cons.injEq, and_true] at ep
  obtain ⟨rfl, rfl, rfl, rfl, rfl, rfl, rfl, rfl, rfl, rfl, rfl⟩ := ep
  exact ⟨⟨p, ph⟩, rfl, hp, inI_of_wf w1⟩
set_option maxRecDepth 100000 in
theorem open_ents {H : Type} {enc : TypeId × Value → H} {W : World} {v : Value} {b : Nat} {d : DataW H} {p : List MemPlace} (o : Value.okWide Try.prog W .any b 71 v) (h : DataW.Trod enc Try.prog W 0 (fun _ => true) true 71 v d p) :
    ∃ (a : Option Addr) (len cap : Nat) (L : List EntV), v = .slice a len cap ∧ L.length = len ∧ (∀ x ∈ L, x.ok) ∧ Row W a len cap 12 (L.flatMap EntV.cells) := by
  obtain ⟨a, len, cap, rfl⟩ := slice_of_ok Try.underlying71 o
  obtain ⟨L, h1, h2, h3⟩ := Rd.rows EntV.cells 12 Try.underlying71 (by kernel_rfl) (by omega) EntV.cells_len EntV.ok (fun es hes => rd_ent hes) (Rd.of h)
  exact ⟨a, len, cap, L, rfl, h1, h2, h3⟩
def podsOf (T : List EntV) : List PodV := T.map EntV.pod
theorem podsOf_len (T : List EntV) : (podsOf T).length = T.length := List.length_map _
theorem podsOf_next {T : List EntV} {k : Nat} {x : EntV} (h : T[k]? = some x) : podsOf (T.take (k + 1)) = podsOf (T.take k) ++ [x.pod] := by
  unfold podsOf
  rw [List.take_add_one, h, List.map_append]; rfl
theorem podsOf_get {T : List EntV} {k : Nat} {y : PodV} (h : (podsOf T)[k]? = some y) : ∃ x, T[k]? = some x ∧ x.pod = y := by
  unfold podsOf at h
  rw [List.getElem?_map] at h
  cases hx : T[k]? with
  | none => rw [hx] at h; cases h
  | some x => rw [hx] at h; exact ⟨x, rfl, by simpa using h⟩
theorem podsOf_ok {T : List EntV} (h : ∀ x ∈ T, x.ok) : ∀ y ∈ podsOf T, y.ok := by
  intro y hy
  unfold podsOf at hy
  obtain ⟨x, hx, rfl⟩ := List.mem_map.1 hy
  exact (h x hx).1
instance : Inhabited PodV := ⟨⟨⟨#[]⟩, 0, false, 0, 0, 0, 0, 0, 0, ⟨#[]⟩, 0⟩⟩
/-- What a table is: few right pods, no two of one name. -/
structure TabOK (T : List EntV) : Prop where
  len : T.length ≤ 64
  right : ∀ x ∈ T, rightB x.pod = true ∧ 1 ≤ x.phase ∧ x.phase ≤ 3
  dist : Dist (podsOf T)
def sameB (G H : List ByteArray) : Bool := decide (G = H)
theorem same_refl (G : List ByteArray) : sameB G G = true := decide_eq_true rfl
theorem same_len {G H : List ByteArray} (h : G.length ≠ H.length) : sameB G H = false := by unfold sameB; exact decide_eq_false (fun e => h (congrArg List.length e))
theorem same_no {G H : List ByteArray} {k : Nat} {s t : ByteArray} (hs : G[k]? = some s) (ht : H[k]? = some t) (h : (s.toList == t.toList) = false) : sameB G H = false := by
  unfold sameB
  refine decide_eq_false (fun e => ?_)
  rw [e] at hs
  rw [hs] at ht
  cases ht
  simp at h
theorem same_next {G H : List ByteArray} {k : Nat} {s t : ByteArray} (hs : G[k]? = some s) (ht : H[k]? = some t) (h : (s.toList == t.toList) = true) (hk : G.take k = H.take k) : G.take (k + 1) = H.take (k + 1) := by
  have e : s = t := str_ext (by simpa using h)
  subst e
  rw [List.take_add_one, List.take_add_one, hs, ht, hk]
theorem text_cell {w : World} {a : Option Addr} {n cap : Nat} {G : List ByteArray} (h : Row w a n cap 1 (G.map Value.string)) {k : Nat} {s : ByteArray} (hs : G[k]? = some s) : ∃ b off, a = some ⟨b, off, none⟩ ∧ w.cell? ⟨b, off + k, none⟩ = some (.string s) := by
  obtain ⟨_, _, _, _, h5⟩ := h
  have hk : (G.map Value.string)[k]? = some (.string s) := by rw [List.getElem?_map, hs]; rfl
  rcases h5 with h5 | ⟨b, off, e, hc⟩
  · rw [h5] at hk; cases hk
  · refine ⟨b, off, e, ?_⟩
    rw [hc k (by rcases Nat.lt_or_ge k (G.map Value.string).length with q | q; exact q; rw [List.getElem?_eq_none q] at hk; cases hk), hk]
set_option maxRecDepth 100000 in
set_option maxHeartbeats 16000000 in
theorem sames_any (a b : Option Addr) (n1 n2 c1 c2 : Nat) (G H : List ByteArray) (w : World) (hn : G.length = n1) (hm : H.length = n2) (h1 : Row w a n1 c1 1 (G.map Value.string)) (h2 : Row w b n2 c2 1 (H.map Value.string)) :
    Calls Try.prog 49 #[.slice a n1 c1, .slice b n2 c2] w fun e w' => e = .returned (.bool (sameB G H)) ∧ Below w.heap.size w w' := by
  have hbd_x : n1 ≤ c1 ∧ c1 ≤ 9223372036854775807 := by obtain ⟨_, h1, h2, _⟩ := h1; unfold maxLen at h2; exact ⟨h1, h2⟩
  obtain ⟨hbd1_x, hbd2_x⟩ := hbd_x
  have hbd_y : n2 ≤ c2 ∧ c2 ≤ 9223372036854775807 := by obtain ⟨_, h1, h2, _⟩ := h2; unfold maxLen at h2; exact ⟨h1, h2⟩
  obtain ⟨hbd1_y, hbd2_y⟩ := hbd_y
  have H1 := Lib.hid h1
  have H2 := Lib.hid h2
  clear h1 h2
  subst hn hm
  have hbel : Below w.heap.size w w := Below.refl _ _
  by_cases hle : G.length = H.length
  · have hq : ((G.length : Int) != (H.length : Int)) = false := by simp [hle]
    have hq2 : ((G.length : Int) == (H.length : Int)) = true := by simp [hle]
    have HLE := Lib.hid hle
    clear hle
    go_enter Try.func49, Try.ntmps49
    go_wp2
    clear hq hq2
    have HB := Lib.hid hbel
    clear hbel
    go_loopw [5] (fun i wr => ∃ k : Nat, k ≤ G.length ∧ i = .int .i64 k ∧ G.take k = H.take k ∧ Below w.heap.size w wr) (fun i _ => G.length - (intOf i).toNat)
    case atStart => exact ⟨0, Nat.zero_le _, rfl, rfl, HB.out⟩
    case round =>
      obtain ⟨k, hk, rfl, htk, hbel⟩ := hrel
      by_cases hlt : k < G.length
      · have hlt2 : k < H.length := by rw [← HLE.out]; exact hlt
        obtain ⟨s, hs⟩ : ∃ s, G[k]? = some s := ⟨G[k], List.getElem?_eq_getElem hlt⟩
        obtain ⟨t, ht⟩ : ∃ t, H[k]? = some t := ⟨H[k], List.getElem?_eq_getElem hlt2⟩
        obtain ⟨ab, ao, rfl, ca⟩ := text_cell H1.out hs
        obtain ⟨bb, bo, rfl, cb⟩ := text_cell H2.out ht
        have x0 := keep ca
        have y0 := keep cb
        have hd : decide ((k : Int) < (G.length : Int)) = true := decide_eq_true (by omega)
        have HT := Lib.hid htk
        have HS := Lib.hid hs
        have HTT := Lib.hid ht
        clear hs ht ca cb htk
        cases he : (s.toList == t.toList) with
        | true =>
          have HN := Lib.hid (same_next HS.out HTT.out he HT.out)
          go_upto_region 6 with fail
          have kk := fun d os => belStep hbel (below_regrown _ d os)
          refine wp_region_quiet_below (by kernel_rfl) (by kernel_rfl) ?_
          repeat ((with_reducible refine wpQuiet_step (fun K hK => ?_)); go_simp; (try (rw [if_neg]; rotate_left; · decide)); first | ((with_reducible refine hK _ ?_); clear hK K) | (apply Exists.intro; refine ⟨fun _ => ?_, hK _ ?_⟩; (fail); clear hK K))
          refine wpQuiet_nil (fun w1 hw1 => ?_)
          replace hbel := belStep hbel (bel_of_class hw1)
          clear hw1 kk
          go_wp2
          go_roundw
          case rel => exact ⟨k + 1, by omega, by push_cast; rfl, HN.out, hbel⟩
          case measure => simp [intOf] <;> omega
        | false =>
          have HN := Lib.hid (same_no HS.out HTT.out he)
          go_upto_region 6 with fail
          have kk := fun d os => belStep hbel (below_regrown _ d os)
          refine wp_region_quiet_below (by kernel_rfl) (by kernel_rfl) ?_
          repeat ((with_reducible refine wpQuiet_step (fun K hK => ?_)); go_simp; (try (rw [if_neg]; rotate_left; · decide)); first | ((with_reducible refine hK _ ?_); clear hK K) | (apply Exists.intro; refine ⟨fun _ => ?_, hK _ ?_⟩; (fail); clear hK K))
          refine wpQuiet_nil (fun w1 hw1 => ?_)
          replace hbel := belStep hbel (bel_of_class hw1)
          clear hw1 kk
          go_wp2
          go_ret
          exact ⟨by rw [HN.out]; rfl, hbel⟩
      · obtain rfl : k = G.length := by omega
        have hd : decide ((G.length : Int) < (G.length : Int)) = false := decide_eq_false (by omega)
        have HN := Lib.hid (show sameB G H = true by unfold sameB; refine decide_eq_true ?_; rw [List.take_length] at htk; rw [htk, HLE.out, List.take_length])
        clear htk
        go_wp2
        go_ret
        exact ⟨by rw [HN.out]; rfl, hbel⟩
  · have hq : ((G.length : Int) != (H.length : Int)) = true := by simp; omega
    have hq2 : ((G.length : Int) == (H.length : Int)) = false := by simp; omega
    have HN := Lib.hid (same_len hle)
    clear hle
    go_enter Try.func49, Try.ntmps49
    go_wp2
    go_ret
    exact ⟨by rw [HN.out]; rfl, hbel⟩
def TabP (T : List EntV) (w : World) (e : Ending) (w' : World) : Prop := (∃ b, e = .returned (.bool b) ∧ (b = true → TabOK T)) ∧ Below w.heap.size w w'
theorem TabP.no {T : List EntV} {w w' : World} {e : Ending} (he : e = .returned (.bool false)) (hb : Below w.heap.size w w') : TabP T w e w' := ⟨⟨false, he, fun h => by cases h⟩, hb⟩
theorem TabP.yes {T : List EntV} {w w' : World} {e : Ending} (he : e = .returned (.bool true)) (h : TabOK T) (hb : Below w.heap.size w w') : TabP T w e w' := ⟨⟨true, he, fun _ => h⟩, hb⟩
theorem ents_next {T : List EntV} {P : EntV → Prop} {k : Nat} {x : EntV} (h : T[k]? = some x) (ha : ∀ y ∈ T.take k, P y) (hx : P x) : ∀ y ∈ T.take (k + 1), P y := by
  rw [List.take_add_one, h]
  intro y hy
  rcases List.mem_append.1 hy with q | q
  · exact ha y q
  · simp at q; subst q; exact hx
theorem entd_next {T : List EntV} {k : Nat} {x : EntV} (h : T[k]? = some x) (hd : Dist (podsOf (T.take k))) (hn : ∀ y ∈ T.take k, y.pod.id ≠ x.pod.id) : Dist (podsOf (T.take (k + 1))) := by
  rw [podsOf_next h]
  refine dist_all hd (fun y hy => ?_)
  unfold podsOf at hy
  obtain ⟨z, hz, rfl⟩ := List.mem_map.1 hy
  exact hn z hz
set_option maxRecDepth 100000 in
set_option maxHeartbeats 16000000 in
theorem rref_Fit (a : Option Addr) (len cap : Nat) (T : List EntV) (w : World) (hl : T.length = len) (hok : ∀ x ∈ T, x.ok) (hR : Row w a len cap 12 (T.flatMap EntV.cells)) :
    Calls Try.prog 45 #[.slice a len cap] w fun e w' => TabP T w e w' := by
  have hw : Below w.heap.size w w := Below.refl _ _
  have hbel := hw
  have hbd_t : len ≤ cap ∧ cap ≤ 9223372036854775807 := by obtain ⟨_, h1, h2, _⟩ := hR; unfold maxLen at h2; exact ⟨h1, h2⟩
  obtain ⟨hbd1_t, hbd2_t⟩ := hbd_t
  have HR := Lib.hid hR
  have HOK := Lib.hid hok
  clear hR hok
  subst hl
  by_cases hb : 64 < T.length
  · have hb1 : (64 : Int) < (T.length : Int) := by omega
    go_enter Try.func45, Try.ntmps45
    go_wp2
    go_ret
    exact TabP.no rfl hbel
  · have hb1 : ¬ ((64 : Int) < (T.length : Int)) := by omega
    go_enter Try.func45, Try.ntmps45
    go_wp2
    have HB := Lib.hid hbel
    clear hbel
    go_loopw [3] (fun i wr => ∃ k : Nat, k ≤ T.length ∧ i = .int .i64 k ∧ Hid (∀ x ∈ T.take k, rightB x.pod = true ∧ 1 ≤ x.phase ∧ x.phase ≤ 3) ∧ Hid (Dist (podsOf (T.take k))) ∧ Below w.heap.size w wr) (fun i _ => T.length - (intOf i).toNat)
    case atStart => exact ⟨0, Nat.zero_le _, rfl, Lib.hid (fun x hx => by cases hx), Lib.hid List.Pairwise.nil, HB.out⟩
    case round =>
      obtain ⟨k, hk, rfl, HA, HD, hbel⟩ := hrel
      clear HB
      by_cases hlt : k < T.length
      · obtain ⟨x, hx⟩ : ∃ x, T[k]? = some x := ⟨T[k], List.getElem?_eq_getElem hlt⟩
        obtain ⟨bc, oc, ec, _, hcc⟩ := (HR.out).elem EntV.cells_len (by omega) hx
        subst ec
        have c0 := keep (hcc 0 _ rfl)
        have c1 := keep (hcc 1 _ rfl)
        have c2 := keep (hcc 2 _ rfl)
        have c3 := keep (hcc 3 _ rfl)
        have c4 := keep (hcc 4 _ rfl)
        have c5 := keep (hcc 5 _ rfl)
        have c6 := keep (hcc 6 _ rfl)
        have c7 := keep (hcc 7 _ rfl)
        have c8 := keep (hcc 8 _ rfl)
        have c9 := keep (hcc 9 _ rfl)
        have c10 := keep (hcc 10 _ rfl)
        have c11 := keep (hcc 11 _ rfl)
        rw [Nat.add_zero] at c0
        have hd : decide ((k : Int) < (T.length : Int)) = true := decide_eq_true (by omega)
        have CS := Lib.hid (fun v => pref_Small x.pod v (HOK.out x (List.mem_of_getElem? hx)).1)
        have CR := Lib.hid (fun v => pref_Right x.pod v (HOK.out x (List.mem_of_getElem? hx)).1)
        have HX := Lib.hid hx
        clear hx hcc
        obtain ⟨sm, hsm⟩ : ∃ b, smallB x.pod = b := ⟨_, rfl⟩
        obtain ⟨rt, hrt⟩ : ∃ b, rightB x.pod = b := ⟨_, rfl⟩
        rw [hsm] at CS
        rw [hrt] at CR
        have HRT := Lib.hid hrt
        clear hsm hrt
        have key : sm = false ∨ (sm = true ∧ rt = false) ∨ (sm = true ∧ rt = true ∧ x.phase < 1) ∨ (sm = true ∧ rt = true ∧ ¬ x.phase < 1 ∧ 3 < x.phase) ∨ (sm = true ∧ rt = true ∧ ¬ x.phase < 1 ∧ ¬ 3 < x.phase) := by cases sm <;> cases rt <;> simp <;> omega
        rcases key with rfl | ⟨rfl, rfl⟩ | ⟨rfl, rfl, k1⟩ | ⟨rfl, rfl, k1, k2⟩ | ⟨rfl, rfl, k1, k2⟩
        · go_wp2_with (first | (go_at_call 36; (with_reducible refine (CS.out _).mono ?_); rintro e w1 ⟨rfl, hb1⟩; replace hbel := belStep hbel hb1; clear hb1) | (go_at_call 37; (with_reducible refine (CR.out _).mono ?_); rintro e w1 ⟨rfl, hb1⟩; replace hbel := belStep hbel hb1; clear hb1))
          go_ret
          exact TabP.no rfl hbel
        · go_wp2_with (first | (go_at_call 36; (with_reducible refine (CS.out _).mono ?_); rintro e w1 ⟨rfl, hb1⟩; replace hbel := belStep hbel hb1; clear hb1) | (go_at_call 37; (with_reducible refine (CR.out _).mono ?_); rintro e w1 ⟨rfl, hb1⟩; replace hbel := belStep hbel hb1; clear hb1))
          go_ret
          exact TabP.no rfl hbel
        · go_wp2_with (first | (go_at_call 36; (with_reducible refine (CS.out _).mono ?_); rintro e w1 ⟨rfl, hb1⟩; replace hbel := belStep hbel hb1; clear hb1) | (go_at_call 37; (with_reducible refine (CR.out _).mono ?_); rintro e w1 ⟨rfl, hb1⟩; replace hbel := belStep hbel hb1; clear hb1))
          go_ret
          exact TabP.no rfl hbel
        · go_wp2_with (first | (go_at_call 36; (with_reducible refine (CS.out _).mono ?_); rintro e w1 ⟨rfl, hb1⟩; replace hbel := belStep hbel hb1; clear hb1) | (go_at_call 37; (with_reducible refine (CR.out _).mono ?_); rintro e w1 ⟨rfl, hb1⟩; replace hbel := belStep hbel hb1; clear hb1))
          go_ret
          exact TabP.no rfl hbel
        · have HAN := Lib.hid (ents_next HX.out HA.out ⟨HRT.out, by omega, by omega⟩)
          go_wp2_with (first | (go_at_call 36; (with_reducible refine (CS.out _).mono ?_); rintro e w1 ⟨rfl, hb1⟩; replace hbel := belStep hbel hb1; clear hb1) | (go_at_call 37; (with_reducible refine (CR.out _).mono ?_); rintro e w1 ⟨rfl, hb1⟩; replace hbel := belStep hbel hb1; clear hb1))
          clear k1 k2
          have HB0 := Lib.hid hbel
          clear hbel hd
          go_loopw [4] (fun i wi => ∃ m : Nat, m ≤ k ∧ i = .int .i64 m ∧ Hid (∀ y ∈ T.take m, y.pod.id ≠ x.pod.id) ∧ Below w.heap.size w wi) (fun i _ => k - (intOf i).toNat)
          case atStart => exact ⟨0, Nat.zero_le _, rfl, Lib.hid (fun y hy => by cases hy), HB0.out⟩
          case round =>
            obtain ⟨m, hm, rfl, HM, hbel⟩ := hrel
            clear HB0
            by_cases hmt : m < k
            · obtain ⟨y, hy⟩ : ∃ y, T[m]? = some y := ⟨T[m], List.getElem?_eq_getElem (by omega)⟩
              obtain ⟨bd, od, ed, _, hcd⟩ := (HR.out).elem EntV.cells_len (by omega) hy
              simp only [Option.some.injEq, Addr.mk.injEq, and_true] at ed
              obtain ⟨rfl, rfl⟩ := ed
              have d0 := keep (hcd 0 _ rfl)
              have d1 := keep (hcd 1 _ rfl)
              have d2 := keep (hcd 2 _ rfl)
              have d3 := keep (hcd 3 _ rfl)
              have d4 := keep (hcd 4 _ rfl)
              have d5 := keep (hcd 5 _ rfl)
              have d6 := keep (hcd 6 _ rfl)
              have d7 := keep (hcd 7 _ rfl)
              have d8 := keep (hcd 8 _ rfl)
              have d9 := keep (hcd 9 _ rfl)
              have d10 := keep (hcd 10 _ rfl)
              have d11 := keep (hcd 11 _ rfl)
              rw [Nat.add_zero] at d0
              have hd : decide ((m : Int) < (k : Int)) = true := decide_eq_true (by omega)
              have HY := Lib.hid hy
              have hml : m < T.length := by omega
              clear hy hcd
              cases he : (y.pod.id.toList == x.pod.id.toList) with
              | true =>
                go_upto_region 11 with fail
                have kk := fun d os => belStep hbel (below_regrown _ d os)
                refine wp_region_quiet_below (by kernel_rfl) (by kernel_rfl) ?_
                repeat ((with_reducible refine wpQuiet_step (fun K hK => ?_)); go_simp; (try (rw [if_neg]; rotate_left; · decide)); first | ((with_reducible refine hK _ ?_); clear hK K) | (apply Exists.intro; refine ⟨fun _ => ?_, hK _ ?_⟩; (fail); clear hK K))
                refine wpQuiet_nil (fun w1 hw1 => ?_)
                replace hbel := belStep hbel (bel_of_class hw1)
                clear hw1 kk
                go_wp2
                go_ret
                exact TabP.no rfl hbel
              | false =>
                have HN := Lib.hid (ents_next (P := fun y => y.pod.id ≠ x.pod.id) HY.out HM.out (id_bne he))
                go_upto_region 11 with fail
                have kk := fun d os => belStep hbel (below_regrown _ d os)
                refine wp_region_quiet_below (by kernel_rfl) (by kernel_rfl) ?_
                repeat ((with_reducible refine wpQuiet_step (fun K hK => ?_)); go_simp; (try (rw [if_neg]; rotate_left; · decide)); first | ((with_reducible refine hK _ ?_); clear hK K) | (apply Exists.intro; refine ⟨fun _ => ?_, hK _ ?_⟩; (fail); clear hK K))
                refine wpQuiet_nil (fun w1 hw1 => ?_)
                replace hbel := belStep hbel (bel_of_class hw1)
                clear hw1 kk
                go_wp2
                go_roundw
                case rel => exact ⟨m + 1, by omega, by push_cast; rfl, HN, hbel⟩
                case measure => simp [intOf] <;> omega
            · obtain rfl : k = m := by omega
              have hd : decide ((k : Int) < (k : Int)) = false := decide_eq_false (by omega)
              have HDN := Lib.hid (entd_next HX.out HD.out HM.out)
              go_wp2
              go_roundw
              case rel => exact ⟨k + 1, by omega, by push_cast; rfl, HAN, HDN, hbel⟩
              case measure => simp [intOf] <;> omega
      · obtain rfl : k = T.length := by omega
        have hd : decide ((T.length : Int) < (T.length : Int)) = false := decide_eq_false (by omega)
        rw [List.take_length] at HA HD
        go_wp2
        go_ret
        exact TabP.yes rfl ⟨by omega, HA.out, HD.out⟩ hbel
end Go.Proofs.Ytcgpmihjodolmaa
