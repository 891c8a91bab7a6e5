
/- Stage 22: sweep.strays: a map of the call's own: contract. -/
import Derived.Test.YtampkolkbjmmkaaSw4
import Derived.Maps.OwnOps
import Derived.Maps.Views
namespace Go.Proofs.Ytampkolkbjmmkaa
open Go.RowKit Go.Sort Go.WideMaps Go.Maps
set_option linter.unusedVariables false
set_option linter.unusedSimpArgs false
theorem strs_keyed : Keyed Try.prog 9 := string_keyed Try.underlying9
theorem zero_intM (w : World) : (zeroValue 3).run Try.prog w = .ok (.int .i64 0) w := by kernel_rfl
theorem info_contI : (Try.prog.info? 35).map (fun i => (i.zero, i.size, i.bytes)) = some (some (.agg #[.string ⟨#[]⟩, .int .i64 0, .int .i64 0, .int .i64 0]), 4, 40) := by kernel_rfl
theorem cont_one (x : ContV) : ∀ v ∈ x.cells, v.oneCell' = true := by
  intro v hv; simp only [ContV.cells, List.mem_cons, List.not_mem_nil, or_false] at hv; rcases hv with rfl | rfl | rfl | rfl <;> rfl
def keyL (s : ByteArray) : Lit := .string s.data.toList
def cntT (U : List ByteArray) (s : ByteArray) : Nat := (U.filter fun t => t.toList == s.toList).length
def Counts (D : DataW Unit) (U : List ByteArray) : Prop := IsMap D ∧ ∀ s : ByteArray, D.atKey (keyL s) (.lit (.int .i64 0)) = .lit (.int .i64 (cntT U s : Int))
theorem counts_start : Counts (.map []) [] := ⟨⟨[], rfl⟩, fun s => rfl⟩
theorem cnt_le (U : List ByteArray) (k : Nat) (s : ByteArray) : cntT (U.take k) s ≤ k := by
  unfold cntT
  have h1 := List.length_filter_le (fun t : ByteArray => t.toList == s.toList) (U.take k)
  rw [List.length_take] at h1
  omega
theorem counts_step {D : DataW Unit} {U : List ByteArray} {k : Nat} {t : ByteArray} {c : Int} (h : Counts D (U.take k)) (ht : U[k]? = some t) (hc : D.atKey (keyL t) (.lit (.int .i64 0)) = .lit (.int .i64 c)) (hb : k ≤ 100000) :
    Counts (D.put (keyL t) (.lit (.int .i64 (wrap64 (c + 1))))) (U.take (k + 1)) := by
  obtain ⟨hm, h⟩ := h
  have e := (h t).symm.trans hc
  simp only [DataW.lit.injEq, Lit.int.injEq, true_and] at e
  have hle := cnt_le U k t
  have hw : wrap64 (c + 1) = c + 1 := by unfold wrap64; omega
  refine ⟨hm.put _ _, fun s => ?_⟩
  by_cases q : t.toList = s.toList
  · have ek : keyL s = keyL t := by unfold keyL; rw [← ByteArray.toList_eq, ← ByteArray.toList_eq, q]
    rw [ek, atKey_put_same hm (show WideAt.IsKeyLit (keyL t) from trivial), hw, ← e, show cntT (U.take (k + 1)) s = cntT (U.take k) t + 1 by unfold cntT; rw [← q, filtG_next ht (by simp), List.length_append]; rfl]
    push_cast; rfl
  · rw [atKey_put_other (fun e2 => q (by unfold keyL at e2; simp only [Lit.string.injEq] at e2; rw [ByteArray.toList_eq, ByteArray.toList_eq, e2])), h s, show cntT (U.take (k + 1)) s = cntT (U.take k) s by unfold cntT; rw [filtG_same ht (by simpa using q)]]
theorem cnt_zero (U : List ByteArray) (s : ByteArray) : ((cntT U s : Int) == 0) = !hasU U s := by
  cases h : hasU U s with
  | false =>
    have e : cntT U s = 0 := by
      unfold cntT
      rw [List.filter_eq_nil_iff.2 (fun t ht => by have := List.any_eq_false.1 (show (U.any fun t => t.toList == s.toList) = false from h) t ht; simpa using this)]
      rfl
    rw [e]; rfl
  | true =>
    obtain ⟨t, ht, he⟩ := List.any_eq_true.1 (show (U.any fun t => t.toList == s.toList) = true from h)
    have hp : 0 < cntT U s := List.length_pos_of_mem (List.mem_filter.2 ⟨ht, he⟩)
    rw [beq_eq_false_iff_ne.2 (by omega)]; rfl
theorem counts_ask {D : DataW Unit} {U : List ByteArray} (h : Counts D U) (s : ByteArray) (c : Int) (hc : D.atKey (keyL s) (.lit (.int .i64 0)) = .lit (.int .i64 c)) : (c == 0) = !hasU U s := by
  have e := (h.2 s).symm.trans hc
  simp only [DataW.lit.injEq, Lit.int.injEq, true_and] at e
  rw [← e]; exact cnt_zero U s
set_option maxRecDepth 100000 in
set_option maxHeartbeats 16000000 in
theorem sw_strays (a : Option Addr) (len cap : Nat) (L : List ContV) (b : Option Addr) (ul uc : Nat) (U : List ByteArray) (w : World) (hl : L.length = len) (hR : Row w a len cap 4 (L.flatMap ContV.cells)) (hu : U.length = ul) (hRU : Row w b ul uc 1 (U.map Value.string)) (huk : ∀ s ∈ U, s.size ≤ maxLen) (hok : ∀ x ∈ L, x.ok) (hn : len ≤ 100000) (hn2 : ul ≤ 100000) :
    Calls Try.prog 55 #[.slice a len cap, .slice b ul uc] w fun e w' => ∃ v, e = .returned v ∧ OwnR w' w.heap.size 35 4 v (strayC L U).length ((strayC L U).flatMap ContV.cells) ∧ Below w.heap.size w w' := by
  have hw : Below w.heap.size w w := Below.refl _ _
  have hbd_a : len ≤ cap ∧ cap ≤ 9223372036854775807 := by obtain ⟨_, h1, h2, _⟩ := hR; unfold maxLen at h2; exact ⟨h1, h2⟩
  obtain ⟨hbd1_a, hbd2_a⟩ := hbd_a
  have hbd_u : ul ≤ uc ∧ uc ≤ 9223372036854775807 := by obtain ⟨_, h1, h2, _⟩ := hRU; unfold maxLen at h2; exact ⟨h1, h2⟩
  obtain ⟨hbd1_u, hbd2_u⟩ := hbd_u
  have HR := Lib.hid hR
  have HRU := Lib.hid hRU
  have HUK := Lib.hid huk
  have HOK := Lib.hid hok
  clear hR hRU huk hok
  subst hl hu
  have hmm := @run_makeMap Try.prog
  go_enter Try.func55, Try.ntmps55
  go_wp2
  go_loopw [14] (fun iv wr => ∃ (k : Nat) (D : DataW Unit), k ≤ U.length ∧ iv = .int .i64 k ∧ Hid (wr.ownsMap Try.prog 9 (plainElem Try.prog 3) w.heap.size k D) ∧ Hid (Counts D (U.take k)) ∧ Below w.heap.size w wr) (fun iv _ => U.length - (intOf iv).toNat)
  case atStart => exact ⟨0, .map [], Nat.zero_le _, rfl, Lib.hid (World.ownsMap_made _ _ _ _), Lib.hid counts_start, (Below.refl _ _).alloc (Nat.le_refl _) _⟩
  case round =>
    clear hw hmm
    obtain ⟨k, D, hk, rfl, HOWN, HC, hbel⟩ := hrel
    by_cases hlt : k < U.length
    · have hd : decide ((k : Int) < (U.length : Int)) = true := decide_eq_true (by omega)
      have hki : (k : Int) < (U.length : Int) := by omega
      have hk0 : (0 : Int) ≤ (k : Int) := by omega
      obtain ⟨t, ht⟩ : ∃ t, U[k]? = some t := ⟨U[k], List.getElem?_eq_getElem hlt⟩
      obtain ⟨bu, ou, eu, cu⟩ := text_cell (HRU.out) ht
      subst eu
      have y0 := keep cu
      clear cu
      have HT := Lib.hid ht
      have HKEY := Lib.hid (show keyOf Try.prog 9 (.string t) = some (keyL t) from keyOf_string_mk Try.underlying9 (HUK.out t (List.mem_of_getElem? ht)))
      clear ht
      go_wp2_with (first | (at_lookup; refine wpList_lookup_own_int _ rfl _ _ 131 rfl 9 3 .i64 strs_keyed Try.underlying131 Try.underlying3 (zero_intM _) w.heap.size k _ rfl HOWN.out _ _ rfl HKEY.out ?_; intro c hat hwc) | (at_mapUpdate; refine wpList_mapUpdate_own _ rfl _ _ _ 131 rfl 9 3 strs_keyed Try.underlying131 _ w.heap.size k _ rfl HOWN.out (by unfold maxLen; omega) _ _ _ rfl rfl HKEY.out _ [] (plainElem_int Try.underlying3 (wrap64_wf _)) ?_; intro w1 hown1 hgrow1))
      have HC2 : Hid (Counts (D.put (keyL t) (.lit (.int .i64 (wrap64 (c + 1))))) (U.take (k + 1))) := Lib.hid (counts_step HC.out HT.out hat (by omega))
      have HB2 := hbel.grown hgrow1 hbel.size (fun j hj => by cases hj; exact Nat.le_refl _)
      have HO2 := Lib.hid hown1
      clear hown1 hgrow1 hat
      (try go_wp2)
      go_roundw
      case rel => exact ⟨k + 1, _, by omega, by push_cast; rfl, HO2, HC2, HB2⟩
      case measure => simp [intOf] <;> omega
    · obtain rfl : k = U.length := by omega
      have hd : decide ((U.length : Int) < (U.length : Int)) = false := decide_eq_false (by omega)
      rw [List.take_length] at HC
      have HQ := Lib.hid (fun s c hc => counts_ask HC.out s c hc)
      have hMl := HOWN.out.lt
      have HB3 := Lib.hid hbel
      clear HC hbel
      have hb0 : Below wr.heap.size wr wr := Below.refl _ _
      generalize wr = W3 at *
      go_wp2
      go_loopw [8, 25] (fun v iv wr => ∃ k : Nat, k ≤ L.length ∧ iv = .int .i64 k ∧ Hid (OwnR wr W3.heap.size 35 4 v (strayC (L.take k) U).length ((strayC (L.take k) U).flatMap ContV.cells)) ∧ Hid (wr.ownsMap Try.prog 9 (plainElem Try.prog 3) w.heap.size U.length D) ∧ Below W3.heap.size W3 wr) (fun _ iv _ => L.length - (intOf iv).toNat)
      case atStart => exact ⟨0, Nat.zero_le _, rfl, Lib.hid (OwnR.nil _ _ _ _), HOWN, hb0⟩
      case round =>
        clear hb0 HOWN
        obtain ⟨k, hk, rfl, HO, HOWN, hbr⟩ := hrel
        by_cases hlt : k < L.length
        · have hd : decide ((k : Int) < (L.length : Int)) = true := decide_eq_true (by omega)
          have hki : (k : Int) < (L.length : Int) := by omega
          have hk0 : (0 : Int) ≤ (k : Int) := by omega
          obtain ⟨x, hx⟩ : ∃ x, L[k]? = some x := ⟨L[k], List.getElem?_eq_getElem hlt⟩
          obtain ⟨bc, oc, ec, _, hcc⟩ := (HR.out.later (belStep HB3.out hbr)).elem ContV.cells_len (by omega) hx
          subst ec
          have c0 := keep (hcc 0 _ rfl)
          have c1 := keep (hcc 1 _ rfl)
          have c2 := keep (hcc 2 _ rfl)
          have c3 := keep (hcc 3 _ rfl)
          rw [Nat.add_zero] at c0
          have HX := Lib.hid hx
          have HKEY := Lib.hid (show keyOf Try.prog 9 (.string x.id) = some (keyL x.id) from keyOf_string_mk Try.underlying9 (HOK.out x (List.mem_of_getElem? hx)).1)
          have hfl := filtG_len (fun x : ContV => !hasU U x.id) L k
          clear hx hcc
          have HQX := Lib.hid (HQ.out x.id)
          obtain ⟨hh, hhh⟩ : ∃ q, hasU U x.id = q := ⟨_, rfl⟩
          rw [hhh] at HQX
          have HHH := Lib.hid hhh
          clear hhh
          have hbel : Below wr.heap.size wr wr := Below.refl _ _
          go_upto_region 11 with fail
          clear hbel
          have k1 : Below wr.heap.size wr (wr.alloc (.cells #[.string x.id, .int .i64 x.state, .int .i64 x.tries, .int .i64 x.last] 35)) := belAlloc (Below.refl _ _) _
          have HXB := Lib.hid (show Blk (wr.alloc (.cells #[.string x.id, .int .i64 x.state, .int .i64 x.tries, .int .i64 x.last] 35)) wr.heap.size [.string x.id, .int .i64 x.state, .int .i64 x.tries, .int .i64 x.last] 35 from Blk.new wr [.string x.id, .int .i64 x.state, .int .i64 x.tries, .int .i64 x.last] 35)
          have HO5 := Lib.hid (OwnR.alloc HO.out (.cells #[.string x.id, .int .i64 x.state, .int .i64 x.tries, .int .i64 x.last] 35))
          have HOWN5 := Lib.hid (HOWN.out.alloc (.cells #[.string x.id, .int .i64 x.state, .int .i64 x.tries, .int .i64 x.last] 35))
          have hbw := belStep hbr k1
          clear HO HOWN hbr k1 c0 c1 c2 c3
          generalize wr.alloc (.cells #[.string x.id, .int .i64 x.state, .int .i64 x.tries, .int .i64 x.last] 35) = W5 at *
          have x0 := HXB.out.cell (j := 0) rfl
          have x1 := HXB.out.cell (j := 1) rfl
          have x2 := HXB.out.cell (j := 2) rfl
          have x3 := HXB.out.cell (j := 3) rfl
          cases hh with
          | true =>
            have HN := Lib.hid (filtG_same (f := fun x : ContV => !hasU U x.id) HX.out (by show (!hasU U x.id) = false; rw [HHH.out]; rfl))
            go_wp2_with (at_lookup; refine wpList_lookup_own_int _ rfl _ _ 131 rfl 9 3 .i64 strs_keyed Try.underlying131 Try.underlying3 (zero_intM _) w.heap.size U.length _ rfl HOWN5.out _ _ rfl HKEY.out ?_; intro c hat hwc; have hz : (c == 0) = false := HQX.out c hat; clear hat hwc)
            go_roundw
            case rel => exact ⟨k + 1, by omega, by push_cast; rfl, (by unfold strayC; rw [HN.out]; exact HO5), HOWN5, hbw⟩
            case measure => simp [intOf] <;> omega
          | false =>
            have HN := Lib.hid (filtG_next (f := fun x : ContV => !hasU U x.id) HX.out (by show (!hasU U x.id) = true; rw [HHH.out]; rfl))
            unfold strayC at HO5
            obtain ⟨N, hN⟩ : ∃ N, (L.take k).filter (fun x : ContV => !hasU U x.id) = N := ⟨_, rfl⟩
            rw [hN] at HO5 HN hfl
            clear hN
            have hne : some w.heap.size ≠ _ := fun e => absurd (World.ownsRow.lt HO5.out _ e.symm).1 (by omega)
            have HNE := Lib.hid hne
            clear hne
            have HOA := Lib.hid (OwnR.alloc HO5.out (.cells #[.string x.id, .int .i64 x.state, .int .i64 x.tries, .int .i64 x.last] 35))
            have HRA := Lib.hid (row_new W5 [.string x.id, .int .i64 x.state, .int .i64 x.tries, .int .i64 x.last] 35 1 4 rfl (by unfold maxLen; omega))
            have HOWNA := Lib.hid (HOWN5.out.alloc (.cells #[.string x.id, .int .i64 x.state, .int .i64 x.tries, .int .i64 x.last] 35))
            go_wp2_with (first | (at_lookup; refine wpList_lookup_own_int _ rfl _ _ 131 rfl 9 3 .i64 strs_keyed Try.underlying131 Try.underlying3 (zero_intM _) w.heap.size U.length _ rfl HOWN5.out _ _ rfl HKEY.out ?_; intro c hat hwc; have hz : (c == 0) = true := HQX.out c hat; clear hat hwc) | (at_builtin; go_loud (refine wpList_app_row rfl _ _ 22 rfl W3.heap.size 35 _ 4 40 Try.underlying22 info_contI rfl (by decide) _ _ _ rfl HOA.out _ 1 1 [.string x.id, .int .i64 x.state, .int .i64 x.tries, .int .i64 x.last] rfl HRA.out (cont_one x) ?c1 ?c2 ?c3 ?_)))
            case c1 => simp only [maxLen]; omega
            case c2 => omega
            case c3 => have := hbw.size; simp; omega
            intro v' w9 ho' hb' hg'
            have HO2 := Lib.hid (own_snocG (enc := ContV.cells) (x := x) ho')
            have HOWN9 := Lib.hid (HOWNA.out.kept hg' HNE.out)
            have HB9 := Lib.hid ((belAlloc hbw (.cells #[.string x.id, .int .i64 x.state, .int .i64 x.tries, .int .i64 x.last] 35)).trans hb')
            clear ho' hb' hg'
            go_wp2
            go_roundw
            case rel => exact ⟨k + 1, by omega, by push_cast; rfl, (by unfold strayC; rw [HN.out]; exact HO2), HOWN9, HB9.out⟩
            case measure => simp [intOf] <;> omega
        · obtain rfl : k = L.length := by omega
          have hd : decide ((L.length : Int) < (L.length : Int)) = false := decide_eq_false (by omega)
          rw [List.take_length] at HO
          go_wp2
          go_ret
          exact ⟨_, rfl, OwnR.mono HO.out HB3.out.size, belStep HB3.out hbr⟩
end Go.Proofs.Ytampkolkbjmmkaa
