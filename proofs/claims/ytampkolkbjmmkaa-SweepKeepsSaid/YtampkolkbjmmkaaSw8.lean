
/- Stage 22: bilgeref22.Dead, Extra: contracts. -/
import Derived.Test.YtampkolkbjmmkaaSw4
namespace Go.Proofs.Ytampkolkbjmmkaa
open Go.RowKit Go.Sort
set_option linter.unusedVariables false
set_option linter.unusedSimpArgs false
set_option maxRecDepth 100000 in
set_option maxHeartbeats 16000000 in
theorem cref_Dead (a : Option Addr) (len cap : Nat) (L : List ContV) (b : Option Addr) (ul uc : Nat) (U : List ByteArray) (w : World) (hl : L.length = len) (hR : Row w a len cap 4 (L.flatMap ContV.cells)) (hu : U.length = ul) (hRU : Row w b ul uc 1 (U.map Value.string)) (hrc : RisesC L) (hn : len ≤ 60) :
    Calls Try.prog 26 #[.slice a len cap, .slice b ul uc] w fun e w' => ∃ v, e = .returned v ∧ OwnR w' w.heap.size 9 1 v (deadC L U).length ((deadC L U).map Value.string) ∧ Below w.heap.size w w' := by
  have hw : Below w.heap.size w w := Below.refl _ _
  have hbd_a : len ≤ cap ∧ cap ≤ 9223372036854775807 := by obtain ⟨_, h1, h2, _⟩ := hR; unfold maxLen at h2; exact ⟨h1, h2⟩
  obtain ⟨hbd1_a, hbd2_a⟩ := hbd_a
  have hbd_u : ul ≤ uc ∧ uc ≤ 9223372036854775807 := by obtain ⟨_, h1, h2, _⟩ := hRU; unfold maxLen at h2; exact ⟨h1, h2⟩
  obtain ⟨hbd1_u, hbd2_u⟩ := hbd_u
  have HR := Lib.hid hR
  have HRU := Lib.hid hRU
  have HRC := Lib.hid hrc
  clear hR hRU hrc
  subst hl hu
  have CN := Lib.hid (fun (t : Option Addr) (tl tc : Nat) (T : List ByteArray) (u : World) (ht : T.length = tl) (hT : Row u t tl tc 1 (T.map Value.string)) (hu : Below w.heap.size w u) => cref_next a L.length cap L b U.length uc U t tl tc T u rfl (HR.out.later hu) rfl (HRU.out.later hu) ht hT)
  obtain ⟨o0, ho0⟩ : ∃ o, nxt L U [] L.length = o := ⟨_, rfl⟩
  have HO0 := Lib.hid ho0
  have C0 := Lib.hid (fun u (hu : Below w.heap.size w u) => ho0 ▸ CN.out none 0 0 [] u rfl row_nil hu)
  clear ho0
  have hbel := hw
  have HD0 := Lib.hid (show [] ++ (sortBy (ltOf cfC) (restC L U [])).map ContV.id = deadC L U by rw [rest_start]; rfl)
  have HL0 := Lib.hid (show (0 : Nat) + (restC L U []).length ≤ L.length by rw [rest_start, Nat.zero_add]; exact List.length_filter_le _ _)
  go_enter Try.func26, Try.ntmps26
  go_wp2_with (go_at_call 64; (with_reducible refine (C0.out _ hbel).mono ?_); rintro e w1 ⟨rfl, hb_⟩; replace hbel := belStep hbel hb_; clear hb_)
  go_loopw [5, 6] (fun v kv wr => ∃ (T : List ByteArray) (o : Option Nat), kv = .int .i64 (idxO o) ∧ Hid (nxt L U T L.length = o) ∧ lenV v = T.length ∧ T.length ≤ L.length ∧ Hid (T ++ (sortBy (ltOf cfC) (restC L U T)).map ContV.id = deadC L U) ∧ Hid (T.length + (restC L U T).length ≤ L.length) ∧ Hid (OwnR wr w.heap.size 9 1 v T.length (T.map Value.string)) ∧ Below w.heap.size w wr) (fun v _ _ => L.length - lenV v)
  case atStart => exact ⟨[], o0, rfl, HO0, rfl, Nat.zero_le _, HD0, HL0, Lib.hid (OwnR.nil _ _ _ _), hbel⟩
  case round =>
    clear hw hbel HD0 HL0 HO0 C0
    obtain ⟨T, o, rfl, HN, hlv, hTl, HD, HL, HO, hbr⟩ := hrel
    obtain ⟨ta, tc, e9, hrow⟩ := rowR_of_own HO.out
    subst e9
    clear hrow hlv
    cases o with
    | none =>
      have HF := Lib.hid (show T = deadC L U by have h := HD.out; rw [rest_none HN.out, sortBy_nil] at h; simpa using h)
      simp only [idxO_none, idxO_some]
      have hd : decide ((0 : Int) ≤ -1) = false := rfl
      go_wp2
      go_ret
      exact ⟨_, rfl, by rw [← HF.out]; exact HO.out, hbr⟩
    | some p =>
      obtain ⟨y, hy⟩ : ∃ y, L[p]? = some y := by obtain ⟨_, y, h, _⟩ := nxt_lt (Nat.le_refl L.length) HN.out; exact ⟨y, h⟩
      obtain ⟨hpl, hcy⟩ := cand_of HN.out hy
      have hst := rest_step HRC.out HN.out hy hcy
      have hln := rest_len (T := T) (U := U) HRC.out (List.mem_of_getElem? hy) hcy
      have hle := HL.out
      have hTlt : T.length < L.length := by omega
      have hdd := HD.out
      rw [hst, List.map_cons] at hdd
      clear hst hcy HD HL HN
      obtain ⟨T2, hT2⟩ : ∃ T2, T ++ [y.id] = T2 := ⟨_, rfl⟩
      have hT2l : T2.length = T.length + 1 := by rw [← hT2]; simp
      rw [hT2] at hln hdd
      have HD2 := Lib.hid (show T2 ++ (sortBy (ltOf cfC) (restC L U T2)).map ContV.id = deadC L U by rw [← hdd, ← hT2, List.append_assoc]; rfl)
      have HL2 := Lib.hid (show T2.length + (restC L U T2).length ≤ L.length by omega)
      clear hdd hln hle
      obtain ⟨o2, ho2⟩ : ∃ o, nxt L U T2 L.length = o := ⟨_, rfl⟩
      have HO2N := Lib.hid ho2
      have C2 := Lib.hid (fun (t : Option Addr) (tl tc : Nat) (u : World) (ht : T2.length = tl) (hT : Row u t tl tc 1 (T2.map Value.string)) (hu : Below w.heap.size w u) => ho2 ▸ CN.out t tl tc T2 u ht hT hu)
      clear ho2
      have HT2 := Lib.hid hT2
      have HT2l := Lib.hid hT2l
      clear hT2 hT2l
      have hd : decide ((0 : Int) ≤ (p : Int)) = true := decide_eq_true (by omega)
      have hpi : (p : Int) < (L.length : Int) := by omega
      have hp0 : (0 : Int) ≤ (p : Int) := by omega
      obtain ⟨bc, oc, ec, _, hcc⟩ := (HR.out.later hbr).elem ContV.cells_len (by omega) hy
      subst ec
      have c0 := keep (hcc 0 _ rfl)
      rw [Nat.add_zero] at c0
      clear hy hcc
      simp only [idxO_none, idxO_some]
      have hbel : Below wr.heap.size wr wr := Below.refl _ _
      have HOA := Lib.hid (OwnR.alloc HO.out (.cells #[.string y.id] 9))
      have HRA := Lib.hid (row_new wr [.string y.id] 9 1 1 rfl (by unfold maxLen; omega))
      go_wp2_with (at_builtin; go_loud (refine wpList_app_row rfl _ _ 23 rfl w.heap.size 9 _ 1 16 Try.underlying23 info_strI rfl (by decide) _ _ _ rfl HOA.out _ 1 1 [.string y.id] rfl HRA.out (str_one y.id) ?c1 ?c2 ?c3 ?_))
      case c1 => simp only [maxLen]; omega
      case c2 => omega
      case c3 => have := hbr.size; simp; omega
      intro v' w9 ho' hb' _
      have HO2 := Lib.hid (own_snocM (enc := Value.string) ho')
      have HB2 := Lib.hid ((belAlloc hbr (.cells #[.string y.id] 9)).trans hb')
      clear ho' hb'
      rw [HT2.out] at HO2
      obtain ⟨tb, td, e9, hrow2⟩ := rowR_of_own HO2.out
      subst e9
      have hbw := HB2.out
      clear hbel c0
      go_wp2_with (go_at_call 64; (with_reducible refine (C2.out _ _ _ _ rfl hrow2 hbw).mono ?_); rintro e w10 ⟨rfl, hb10⟩)
      go_roundw
      case rel => exact ⟨T2, o2, rfl, HO2N, rfl, (by have := HT2l.out; omega), HD2, HL2, Lib.hid (HO2.out.later hb10), belStep HB2.out hb10⟩
      case measure => have hT2l := HT2l.out; simp only [lenV_slice] at *; omega
set_option maxRecDepth 100000 in
set_option maxHeartbeats 16000000 in
theorem cref_Extra (a : Option Addr) (len cap : Nat) (L : List ContV) (b : Option Addr) (ul uc : Nat) (U : List ByteArray) (kp : Int) (w : World) (hl : L.length = len) (hR : Row w a len cap 4 (L.flatMap ContV.cells)) (hu : U.length = ul) (hRU : Row w b ul uc 1 (U.map Value.string)) (hrc : RisesC L) (hn : len ≤ 60) (hki : InI kp) :
    Calls Try.prog 28 #[.slice a len cap, .slice b ul uc, .int .i64 kp] w fun e w' => ∃ v, e = .returned v ∧ OwnR w' w.heap.size 9 1 v (extraT (deadC L U) kp).length ((extraT (deadC L U) kp).map Value.string) ∧ Below w.heap.size w w' := by
  have hw : Below w.heap.size w w := Below.refl _ _
  have CD := Lib.hid (cref_Dead a len cap L b ul uc U w hl hR hu hRU hrc hn)
  have hdl := dead_le L U
  rw [hl] at hdl
  clear hR hRU hrc hl hu
  obtain ⟨D, hD⟩ : ∃ D, deadC L U = D := ⟨_, rfl⟩
  rw [hD] at CD hdl ⊢
  clear hD
  have hD60 : D.length ≤ 60 := by omega
  clear hdl
  by_cases hk : kp < 0
  · have hdk : decide (kp < 0) = true := decide_eq_true hk
    obtain ⟨e, he⟩ : ∃ e : Nat, e = D.length := ⟨_, rfl⟩
    have HE := Lib.hid (show extraT D kp = D.take e by unfold extraT; rw [he, show kp.toNat = 0 by omega, Nat.sub_zero])
    have hM : IntKind.i64.wrap ((D.length : Nat) : Int) = (D.length : Int) := IntWalk.i64_in _ (by omega)
    go_enter Try.func28, Try.ntmps28
    go_wp2_with (go_at_call 26; (with_reducible refine (CD.out).mono ?_); rintro e w1 ⟨v1, rfl, ho1, hb1⟩; obtain ⟨da, dc, rfl, hr1⟩ := rowR_of_own ho1; have HD1 := Lib.hid hr1; have HO1 := Lib.hid ho1; clear hr1 ho1; have HB1 := Lib.hid hb1; clear hb1)
    have hb0 : Below w1.heap.size w1 w1 := Below.refl _ _
    generalize w1 = W1 at *
    go_loopw [8, 9] (fun v iv wr => ∃ k : Nat, k ≤ e ∧ iv = .int .i64 k ∧ Hid (OwnR wr W1.heap.size 9 1 v (D.take k).length ((D.take k).map Value.string)) ∧ Below W1.heap.size W1 wr) (fun _ iv _ => e - (intOf iv).toNat)
    case atStart => exact ⟨0, Nat.zero_le _, rfl, Lib.hid (OwnR.nil _ _ _ _), hb0⟩
    case round =>
      clear hb0
      obtain ⟨k, hke, rfl, HO, hbr⟩ := hrel
      by_cases hlt : k < e
      · have hkD : k < D.length := by omega
        have hd : decide ((k : Int) < (D.length : Int)) = true := decide_eq_true (by omega)
        have hki2 : (k : Int) < (D.length : Int) := by omega
        have hk0 : (0 : Int) ≤ (k : Int) := by omega
        obtain ⟨t, ht⟩ : ∃ t, D[k]? = some t := ⟨D[k], List.getElem?_eq_getElem hkD⟩
        obtain ⟨bt, ot, et, ct⟩ := text_cell (HD1.out.later hbr) ht
        subst et
        have y0 := keep ct
        have HN := Lib.hid (takeG_next ht)
        obtain ⟨N, hN⟩ : ∃ N, D.take k = N := ⟨_, rfl⟩
        have hNl : N.length ≤ D.length := by rw [← hN]; simp; omega
        rw [hN] at HO HN
        clear hN ht ct
        have hbel : Below wr.heap.size wr wr := Below.refl _ _
        have HOA := Lib.hid (OwnR.alloc HO.out (.cells #[.string t] 9))
        have HRA := Lib.hid (row_new wr [.string t] 9 1 1 rfl (by unfold maxLen; omega))
        go_wp2_with (at_builtin; go_loud (refine wpList_app_row rfl _ _ 23 rfl W1.heap.size 9 _ 1 16 Try.underlying23 info_strI rfl (by decide) _ _ _ rfl HOA.out _ 1 1 [.string t] rfl HRA.out (str_one t) ?c1 ?c2 ?c3 ?_))
        case c1 => simp only [maxLen]; omega
        case c2 => omega
        case c3 => have := hbr.size; simp; omega
        intro v' w9 ho' hb' _
        have HO2 := Lib.hid (own_snocM (enc := Value.string) ho')
        have HB2 := Lib.hid ((belAlloc hbr (.cells #[.string t] 9)).trans hb')
        clear ho' hb'
        go_wp2
        go_roundw
        case rel => exact ⟨k + 1, by omega, by push_cast; rfl, by rw [HN.out]; exact HO2, HB2.out⟩
        case measure => simp [intOf] <;> omega
      · obtain rfl : k = e := by omega
        subst he
        have hd : decide ((D.length : Int) < (D.length : Int)) = false := decide_eq_false (by omega)
        go_wp2
        go_ret
        exact ⟨_, rfl, by rw [HE.out]; exact OwnR.mono HO.out HB1.out.size, belStep HB1.out hbr⟩
  · have hdk : decide (kp < 0) = false := decide_eq_false hk
    obtain ⟨kn, rfl⟩ : ∃ kn : Nat, kp = kn := ⟨kp.toNat, by omega⟩
    obtain ⟨e, he⟩ : ∃ e : Nat, e = D.length - kn := ⟨_, rfl⟩
    have HE := Lib.hid (show extraT D (kn : Int) = D.take e by unfold extraT; rw [he]; rfl)
    unfold InI at hki
    obtain ⟨M, hM⟩ : ∃ M : Int, (D.length : Int) - (kn : Int) = M := ⟨_, rfl⟩
    have hMw : IntKind.i64.wrap M = M := IntWalk.i64_in _ (by omega)
    go_enter Try.func28, Try.ntmps28
    go_wp2_with (go_at_call 26; (with_reducible refine (CD.out).mono ?_); rintro e w1 ⟨v1, rfl, ho1, hb1⟩; obtain ⟨da, dc, rfl, hr1⟩ := rowR_of_own ho1; have HD1 := Lib.hid hr1; have HO1 := Lib.hid ho1; clear hr1 ho1; have HB1 := Lib.hid hb1; clear hb1)
    have hb0 : Below w1.heap.size w1 w1 := Below.refl _ _
    generalize w1 = W1 at *
    go_loopw [8, 9] (fun v iv wr => ∃ k : Nat, k ≤ e ∧ iv = .int .i64 k ∧ Hid (OwnR wr W1.heap.size 9 1 v (D.take k).length ((D.take k).map Value.string)) ∧ Below W1.heap.size W1 wr) (fun _ iv _ => e - (intOf iv).toNat)
    case atStart => exact ⟨0, Nat.zero_le _, rfl, Lib.hid (OwnR.nil _ _ _ _), hb0⟩
    case round =>
      clear hb0
      obtain ⟨k, hke, rfl, HO, hbr⟩ := hrel
      by_cases hlt : k < e
      · have hkD : k < D.length := by omega
        have hd : decide ((k : Int) < (D.length : Int)) = true := decide_eq_true (by omega)
        have hd2 : decide ((k : Int) < M) = true := decide_eq_true (by omega)
        have hd3 : (k : Int) < M := by omega
        have hki2 : (k : Int) < (D.length : Int) := by omega
        have hk0 : (0 : Int) ≤ (k : Int) := by omega
        obtain ⟨t, ht⟩ : ∃ t, D[k]? = some t := ⟨D[k], List.getElem?_eq_getElem hkD⟩
        obtain ⟨bt, ot, et, ct⟩ := text_cell (HD1.out.later hbr) ht
        subst et
        have y0 := keep ct
        have HN := Lib.hid (takeG_next ht)
        obtain ⟨N, hN⟩ : ∃ N, D.take k = N := ⟨_, rfl⟩
        have hNl : N.length ≤ D.length := by rw [← hN]; simp; omega
        rw [hN] at HO HN
        clear hN ht ct
        have hbel : Below wr.heap.size wr wr := Below.refl _ _
        have HOA := Lib.hid (OwnR.alloc HO.out (.cells #[.string t] 9))
        have HRA := Lib.hid (row_new wr [.string t] 9 1 1 rfl (by unfold maxLen; omega))
        go_wp2_with (at_builtin; go_loud (refine wpList_app_row rfl _ _ 23 rfl W1.heap.size 9 _ 1 16 Try.underlying23 info_strI rfl (by decide) _ _ _ rfl HOA.out _ 1 1 [.string t] rfl HRA.out (str_one t) ?c1 ?c2 ?c3 ?_))
        case c1 => simp only [maxLen]; omega
        case c2 => omega
        case c3 => have := hbr.size; simp; omega
        intro v' w9 ho' hb' _
        have HO2 := Lib.hid (own_snocM (enc := Value.string) ho')
        have HB2 := Lib.hid ((belAlloc hbr (.cells #[.string t] 9)).trans hb')
        clear ho' hb'
        go_wp2
        go_roundw
        case rel => exact ⟨k + 1, by omega, by push_cast; rfl, by rw [HN.out]; exact HO2, HB2.out⟩
        case measure => simp [intOf] <;> omega
      · obtain rfl : k = e := by omega
        by_cases h0 : k < D.length
        · have hd : decide ((k : Int) < (D.length : Int)) = true := decide_eq_true (by omega)
          have hd2 : decide ((k : Int) < M) = false := decide_eq_false (by omega)
          have hd3 : ¬ (k : Int) < M := by omega
          go_wp2
          go_ret
          exact ⟨_, rfl, by rw [HE.out]; exact OwnR.mono HO.out HB1.out.size, belStep HB1.out hbr⟩
        · have hd : decide ((k : Int) < (D.length : Int)) = false := decide_eq_false (by omega)
          go_wp2
          go_ret
          exact ⟨_, rfl, by rw [HE.out]; exact OwnR.mono HO.out HB1.out.size, belStep HB1.out hbr⟩
end Go.Proofs.Ytampkolkbjmmkaa
