
/- SweepKeeps holds for all its arguments. No conditions. -/
import Derived.Test.YtampkolkbjmmkaaAwake22
namespace Go.Proofs.Ytampkolkbjmmkaa.sweepKeeps
open Go.ChangeShapes Go.WideShapes Go.ChangeAt Go.RowKit
open Go.ChangeMaps (open_string shut_string)
set_option linter.unusedVariables false
set_option linter.unusedSimpArgs false
open Go.Sort
theorem same_call (a b : Option Addr) (c1 c2 : Nat) (G : List ByteArray) (w : World) (h1 : Row w a G.length c1 1 (G.map Value.string)) (h2 : Row w b G.length c2 1 (G.map Value.string)) :
    Calls Try.prog 22 #[.slice a G.length c1, .slice b G.length c2] w fun e w' => e = .returned (.bool true) ∧ Below w.heap.size w w' := by
  have h := sames_any a b G.length G.length c1 c2 G G w rfl rfl h1 h2
  rw [same_refl] at h
  exact h
theorem own_rowS {w : World} {B : Nat} {E : TypeId} {k : Nat} {a : Option Addr} {n c : Nat} {cs : List Value} (h : OwnR w B E k (.slice a n c) n cs) : Row w a n c k cs := by
  obtain ⟨a2, c2, e, hr⟩ := rowR_of_own h
  simp only [Value.slice.injEq] at e
  obtain ⟨rfl, _, rfl⟩ := e
  exact hr
theorem conts_one (L : List ContV) : ∀ v ∈ L.flatMap ContV.cells, v.oneCell' = true := fun v hv => by obtain ⟨x, _, hx⟩ := List.mem_flatMap.1 hv; exact cont_one x v hx
theorem strs_one (U : List ByteArray) : ∀ v ∈ U.map Value.string, v.oneCell' = true := fun v hv => by obtain ⟨x, _, rfl⟩ := List.mem_map.1 hv; rfl
theorem bools_one (V : List Bool) : ∀ v ∈ V.map Value.bool, v.oneCell' = true := fun v hv => by obtain ⟨x, _, rfl⟩ := List.mem_map.1 hv; rfl
theorem bools_row {w : World} {d : Option Addr} {wl wc : Nat} {V : List Bool} (h : Bools w d wl wc V) : V.length = wl ∧ Row w d wl wc 1 (V.map Value.bool) := by
  have h1 : Row w d wl wc 1 (V.map Value.bool) := h
  exact ⟨by have := h1.1; simpa using this, h1⟩
/-- From place m on the one is as the other. -/
def TailE (cs ds : List Value) (m : Nat) : Prop := cs.length = ds.length ∧ ∀ j, m ≤ j → cs[j]? = ds[j]?
theorem TailE.refl (cs : List Value) (m : Nat) : TailE cs cs m := ⟨rfl, fun _ _ => rfl⟩
theorem TailE.set {cs ds : List Value} {m q : Nat} (h : TailE cs ds m) (j : Nat) (hj : j < q) (hm : m ≤ q) (v : Value) : TailE (cs.set j v) ds q := ⟨by rw [List.length_set]; exact h.1, fun i hi => by rw [List.getElem?_set_ne (by omega)]; exact h.2 i (by omega)⟩
theorem flat_cellC {L : List ContV} {k j : Nat} {x : ContV} {v : Value} (hx : L[k]? = some x) (hv : x.cells[j]? = some v) : (L.flatMap ContV.cells)[k * 4 + j]? = some v := by
  have hj : j < 4 := by have := (List.getElem?_eq_some_iff.1 hv).1; exact this
  rw [flatMap_get? ContV.cells 4 ContV.cells_len L k j x hx hj]; exact hv
theorem take_cell {C cs : List Value} {m j : Nat} {v : Value} (h : C.take m = cs) (hj : cs[j]? = some v) : C[j]? = some v := by
  have h1 := (List.getElem?_eq_some_iff.1 hj).1
  rw [← h, List.length_take] at h1
  rw [← h, List.getElem?_take_of_lt (by omega)] at hj
  exact hj
set_option maxHeartbeats 1000000 in
theorem eq_cont_same (x : ContV) (w : World) : (Op.equalIn 10000 35 (.agg #[.string x.id, .int .i64 x.state, .int .i64 x.tries, .int .i64 x.last]) (.agg #[.string x.id, .int .i64 x.state, .int .i64 x.tries, .int .i64 x.last])).run Try.prog w = .ok true w := by
  have hs : Try.prog.fieldsOf 33 = #[{ name := "State", type := 3, offset := 0, embedded := false, tag := "", pkgPath := "", byteOffset := 0 }, { name := "Tries", type := 3, offset := 1, embedded := false, tag := "", pkgPath := "", byteOffset := 8 }] := by kernel_rfl
  have ht : Try.prog.fieldsOf 35 = #[{ name := "Id", type := 9, offset := 0, embedded := false, tag := "", pkgPath := "", byteOffset := 0 }, { name := "Box", type := 33, offset := 1, embedded := false, tag := "", pkgPath := "", byteOffset := 16 }, { name := "Last", type := 3, offset := 3, embedded := false, tag := "", pkgPath := "", byteOffset := 32 }] := by kernel_rfl
  have hp : ∀ v : World, (Op.equalIn 9999 33 (.agg #[.int .i64 x.state, .int .i64 x.tries]) (.agg #[.int .i64 x.state, .int .i64 x.tries])).run Try.prog v = .ok true v := by
    intro v
    rw [run_equalIn_struct _ _ _ _ _ (by kernel_rfl) (by kernel_rfl), hs]
    simp [go_sem]
  rw [run_equalIn_struct _ _ _ _ _ (by kernel_rfl) (by kernel_rfl), ht]
  simp [go_sem, hp]
set_option maxRecDepth 100000 in
set_option maxHeartbeats 64000000 in
theorem walk (a : Option Addr) (n c : Nat) (L : List ContV) (m : Option Addr) (mn mc : Nat) (M : List ImgV) (b : Option Addr) (ul uc : Nat) (U : List ByteArray) (d : Option Addr) (wl wc : Nat) (V : List Bool) (w : World) (hl : L.length = n) (hok : ∀ x ∈ L, x.ok) (hR : Row w a n c 4 (L.flatMap ContV.cells)) (hml : M.length = mn) (hmk : ∀ x ∈ M, x.ok) (hRM : Row w m mn mc 3 (M.flatMap ImgV.cells)) (hu : U.length = ul) (huk : ∀ s ∈ U, s.size ≤ maxLen) (hRU : Row w b ul uc 1 (U.map Value.string)) (hBV : Bools w d wl wc V) :
    Calls Try.prog 10 #[.slice a n c, .slice m mn mc, .slice b ul uc, .slice d wl wc] w fun e w' => e = .returned (.bool true) ∧ Below w.heap.size w w' := by
  have hw : Below w.heap.size w w := Below.refl _ _
  have hbel := hw
  have hbd : n ≤ c ∧ c ≤ 9223372036854775807 := by obtain ⟨_, h1, h2, _⟩ := hR; unfold maxLen at h2; exact ⟨h1, h2⟩
  obtain ⟨hbd1, hbd2⟩ := hbd
  obtain ⟨fw, hfw⟩ : ∃ q, fitC L = q := ⟨_, rfl⟩
  have CFW := Lib.hid (fun u (hu : Below w.heap.size w u) => hfw ▸ cref_Fit a n c L u hl (hR.later hu) hok)
  have HFW := Lib.hid hfw
  have HR := Lib.hid hR
  have HOK := Lib.hid hok
  have HLN := Lib.hid hl
  clear hR hok hl hfw
  obtain ⟨fm, hfm⟩ : ∃ q, fewI M = q := ⟨_, rfl⟩
  have CFM := Lib.hid (fun u (hu : Below w.heap.size w u) => hfm ▸ iref_Few m mn mc M u hml (hRM.later hu) hmk)
  have HFM := Lib.hid hfm
  obtain ⟨rm, hrm⟩ : ∃ q, rightI M = q := ⟨_, rfl⟩
  have CRM := Lib.hid (fun u (hu : Below w.heap.size w u) => hrm ▸ iref_Right m mn mc M u hml (hRM.later hu))
  have HRMT := Lib.hid hrm
  have HRM := Lib.hid hRM
  have HMK := Lib.hid hmk
  have HML := Lib.hid hml
  clear hRM hmk hml hfm hrm
  have hbu : ul ≤ uc ∧ uc ≤ 9223372036854775807 := by obtain ⟨_, h1, h2, _⟩ := hRU; unfold maxLen at h2; exact ⟨h1, h2⟩
  obtain ⟨hbu1, hbu2⟩ := hbu
  obtain ⟨fu, hfu⟩ : ∃ q, fewT U = q := ⟨_, rfl⟩
  have CFU := Lib.hid (fun u (hu9 : Below w.heap.size w u) => hfu ▸ iref_Names b ul uc U u hu (hRU.later hu9) huk)
  have HFU := Lib.hid hfu
  have HUK := Lib.hid huk
  have HRU := Lib.hid hRU
  have HUN := Lib.hid hu
  clear hRU huk hu hfu
  obtain ⟨hvl, hRV⟩ : V.length = wl ∧ Row w d wl wc 1 (V.map Value.bool) := bools_row hBV
  have HRV := Lib.hid hRV
  have HVL := Lib.hid hvl
  clear hRV hvl hBV
  by_cases h200 : 200 < wl
  · have h2i : (200 : Int) < (wl : Int) := by omega
    have h2d : decide ((200 : Int) < (wl : Int)) = true := decide_eq_true h2i
    go_enter Try.func10, Try.ntmps10
    go_wp2_with (first | (go_at_call 19; (with_reducible refine (awake22 _).mono ?_); rintro e w1 ⟨rfl, hb1⟩; replace hbel := belStep hbel hb1; clear hb1) | (go_at_call 20; (with_reducible refine (CFW.out _ hbel).mono ?_); rintro e wf1 ⟨rfl, hb_wf1⟩; replace hbel := belStep hbel hb_wf1; clear hb_wf1; rcases fw with _ | _) | (go_at_call 21; (with_reducible refine (CFU.out _ hbel).mono ?_); rintro e wf3 ⟨rfl, hb_wf3⟩; replace hbel := belStep hbel hb_wf3; clear hb_wf3; rcases fu with _ | _) | (go_at_call 31; (with_reducible refine (CFM.out _ hbel).mono ?_); rintro e wf4 ⟨rfl, hb_wf4⟩; replace hbel := belStep hbel hb_wf4; clear hb_wf4; rcases fm with _ | _) | (go_at_call 32; (with_reducible refine (CRM.out _ hbel).mono ?_); rintro e wf2 ⟨rfl, hb_wf2⟩; replace hbel := belStep hbel hb_wf2; clear hb_wf2; rcases rm with _ | _))
    all_goals (go_ret; exact ⟨by first | rfl | simp, hbel⟩)
  · have h2i : ¬ (200 : Int) < (wl : Int) := by omega
    have h2d : decide ((200 : Int) < (wl : Int)) = false := decide_eq_false h2i
    go_enter Try.func10, Try.ntmps10
    go_upto_region 3 with (first | (go_at_call 19; (with_reducible refine (awake22 _).mono ?_); rintro e w1 ⟨rfl, hb1⟩; replace hbel := belStep hbel hb1; clear hb1) | (go_at_call 20; (with_reducible refine (CFW.out _ hbel).mono ?_); rintro e wf1 ⟨rfl, hb_wf1⟩; replace hbel := belStep hbel hb_wf1; clear hb_wf1; rcases fw with _ | _) | (go_at_call 21; (with_reducible refine (CFU.out _ hbel).mono ?_); rintro e wf3 ⟨rfl, hb_wf3⟩; replace hbel := belStep hbel hb_wf3; clear hb_wf3; rcases fu with _ | _) | (go_at_call 31; (with_reducible refine (CFM.out _ hbel).mono ?_); rintro e wf4 ⟨rfl, hb_wf4⟩; replace hbel := belStep hbel hb_wf4; clear hb_wf4; rcases fm with _ | _) | (go_at_call 32; (with_reducible refine (CRM.out _ hbel).mono ?_); rintro e wf2 ⟨rfl, hb_wf2⟩; replace hbel := belStep hbel hb_wf2; clear hb_wf2; rcases rm with _ | _))
    · go_ret
      exact ⟨rfl, hbel⟩
    · go_ret
      exact ⟨rfl, hbel⟩
    · go_ret
      exact ⟨rfl, hbel⟩
    · go_ret
      exact ⟨rfl, hbel⟩
    have HB := Lib.hid hbel
    have HRC := Lib.hid (fit_rises HFW.out)
    have HMI := Lib.hid (right_rises HRMT.out)
    have hn60 : n ≤ 60 := by rw [← HLN.out]; exact fit_len HFW.out
    have hm60 : mn ≤ 60 := by rw [← HML.out]; exact few_len HFM.out
    have hu60 : ul ≤ 60 := by rw [← HUN.out]; exact few_lenT HFU.out
    have hw200 : wl ≤ 200 := by omega
    clear hw CFW CFU CFM CRM hbel h2i h2d
    generalize wf3 = W2 at *
    have HWB := Lib.hid HB.out.size
    have HL := Lib.hid ((HR.out.later HB.out).later (belAlloc (Below.refl W2.heap.size W2) (.cells #[] 35)))
    have HE := Lib.hid (own_empty W2 35 4)
    have hk0 := belAlloc (Below.refl W2.heap.size W2) (.cells #[] 35)
    go_upto_region 4 with (at_builtin; go_loud (refine wpList_app_row rfl _ _ 22 rfl W2.heap.size 35 _ 4 40 Try.underlying22 info_contI rfl (by decide) _ 0 [] rfl HE.out _ n c _ rfl HL.out (conts_one L) ?c1 ?c2 ?c3 ?_))
    case c1 => simp only [maxLen]; omega
    case c2 => omega
    case c3 => simp
    intro v3 w3 ho3 hb3 _
    have hk : Below W2.heap.size W2 w3 := hk0.trans hb3
    have ho4 : OwnR w3 W2.heap.size 35 4 v3 n (L.flatMap ContV.cells) := by simpa using ho3
    obtain ⟨Aa, Ac, rfl, _⟩ := rowR_of_own ho4
    have HA := Lib.hid ho4
    have HGA := Lib.hid (fun q (e : (Value.slice Aa n Ac).ownBlock = some q) => (World.ownsRow.lt ho4 q e).2)
    replace HB := Lib.hid (belStep HB.out hk)
    have hszA := hk.size
    clear ho3 ho4 hb3 hk0 HL HE hk
    generalize w3 = W3 at *
    have HL := Lib.hid ((HRM.out.later HB.out).later (belAlloc (Below.refl W3.heap.size W3) (.cells #[] 46)))
    have HE := Lib.hid (own_empty W3 46 3)
    have hk0 := belAlloc (Below.refl W3.heap.size W3) (.cells #[] 46)
    go_upto_region 5 with (at_builtin; go_loud (refine wpList_app_row rfl _ _ 39 rfl W3.heap.size 46 _ 3 32 Try.underlying39 info_imgI rfl (by decide) _ 0 [] rfl HE.out _ mn mc _ rfl HL.out (imgs_one M) ?c1 ?c2 ?c3 ?_))
    case c1 => simp only [maxLen]; omega
    case c2 => omega
    case c3 => simp
    intro v3 w3 ho3 hb3 _
    have hk : Below W3.heap.size W3 w3 := hk0.trans hb3
    have ho4 : OwnR w3 W3.heap.size 46 3 v3 mn (M.flatMap ImgV.cells) := by simpa using ho3
    obtain ⟨Za, Zc, rfl, _⟩ := rowR_of_own ho4
    have HZ := Lib.hid ho4
    have HGZ := Lib.hid (fun q (e : (Value.slice Za mn Zc).ownBlock = some q) => (World.ownsRow.lt ho4 q e).2)
    replace HA := Lib.hid (OwnR.later HA.out hk)
    replace HB := Lib.hid (belStep HB.out hk)
    have hszZ := hk.size
    clear ho3 ho4 hb3 hk0 HL HE hk
    generalize w3 = W4 at *
    have HL := Lib.hid ((HRU.out.later HB.out).later (belAlloc (Below.refl W4.heap.size W4) (.cells #[] 9)))
    have HE := Lib.hid (own_empty W4 9 1)
    have hk0 := belAlloc (Below.refl W4.heap.size W4) (.cells #[] 9)
    go_upto_region 6 with (at_builtin; go_loud (refine wpList_app_row rfl _ _ 23 rfl W4.heap.size 9 _ 1 16 Try.underlying23 info_strI rfl (by decide) _ 0 [] rfl HE.out _ ul uc _ rfl HL.out (strs_one U) ?c1 ?c2 ?c3 ?_))
    case c1 => simp only [maxLen]; omega
    case c2 => omega
    case c3 => simp
    intro v3 w3 ho3 hb3 _
    have hk : Below W4.heap.size W4 w3 := hk0.trans hb3
    have ho4 : OwnR w3 W4.heap.size 9 1 v3 ul (U.map Value.string) := by simpa using ho3
    obtain ⟨Ca, Cc, rfl, _⟩ := rowR_of_own ho4
    have HC := Lib.hid ho4
    have HGC := Lib.hid (fun q (e : (Value.slice Ca ul Cc).ownBlock = some q) => (World.ownsRow.lt ho4 q e).2)
    replace HA := Lib.hid (OwnR.later HA.out hk)
    replace HZ := Lib.hid (OwnR.later HZ.out hk)
    replace HB := Lib.hid (belStep HB.out hk)
    have hszC := hk.size
    clear ho3 ho4 hb3 hk0 HL HE hk
    generalize w3 = W5 at *
    have HL := Lib.hid ((HRV.out.later HB.out).later (belAlloc (Below.refl W5.heap.size W5) (.cells #[] 4)))
    have HE := Lib.hid (own_empty W5 4 1)
    have hk0 := belAlloc (Below.refl W5.heap.size W5) (.cells #[] 4)
    go_upto_region 7 with (at_builtin; go_loud (refine wpList_app_row rfl _ _ 40 rfl W5.heap.size 4 _ 1 1 Try.underlying40 info_boolI rfl (by decide) _ 0 [] rfl HE.out _ wl wc _ rfl HL.out (bools_one V) ?c1 ?c2 ?c3 ?_))
    case c1 => simp only [maxLen]; omega
    case c2 => omega
    case c3 => simp
    intro v3 w3 ho3 hb3 _
    have hk : Below W5.heap.size W5 w3 := hk0.trans hb3
    have ho4 : OwnR w3 W5.heap.size 4 1 v3 wl (V.map Value.bool) := by simpa using ho3
    obtain ⟨Da, Dc, rfl, _⟩ := rowR_of_own ho4
    have HD := Lib.hid ho4
    have HGD := Lib.hid (fun q (e : (Value.slice Da wl Dc).ownBlock = some q) => (World.ownsRow.lt ho4 q e).2)
    replace HA := Lib.hid (OwnR.later HA.out hk)
    replace HZ := Lib.hid (OwnR.later HZ.out hk)
    replace HC := Lib.hid (OwnR.later HC.out hk)
    replace HB := Lib.hid (belStep HB.out hk)
    have hszD := hk.size
    clear ho3 ho4 hb3 hk0 HL HE hk
    generalize w3 = W6 at *
    obtain ⟨GX, hGX⟩ : ∃ G, deadC L U = G := ⟨_, rfl⟩
    have CD := Lib.hid (hGX ▸ sw_Dead Aa n Ac L Ca ul Cc U W6 HLN.out (own_rowS HA.out) HUN.out (own_rowS HC.out) HUK.out HOK.out HRC.out (by omega) (by omega))
    have HGX := Lib.hid hGX
    clear hGX
    go_upto_region 8 with (go_at_call 25; (with_reducible refine (CD.out).mono ?_); rintro e w7 ⟨v7, rfl, ho7, hb7⟩)
    obtain ⟨Xa, Xc, rfl, _⟩ := rowR_of_own ho7
    have HX := Lib.hid ho7
    replace HB := Lib.hid (belStep HB.out hb7)
    replace HA := Lib.hid (OwnR.later HA.out hb7)
    replace HZ := Lib.hid (OwnR.later HZ.out hb7)
    replace HC := Lib.hid (OwnR.later HC.out hb7)
    replace HD := Lib.hid (OwnR.later HD.out hb7)
    have hszX := hb7.size
    clear ho7 hb7 CD
    generalize w7 = W7 at *
    obtain ⟨R, hRY⟩ : ∃ R, collF 9 V (orderI M U) = R := ⟨_, rfl⟩
    have CY := Lib.hid (hRY ▸ sw_Collect Za mn Zc M Ca ul Cc U 9 Da wl Dc V W7 HML.out (own_rowS HZ.out) HMI.out HUN.out (own_rowS HC.out) HVL.out (own_rowS HD.out) HMK.out (by omega))
    have HRY := Lib.hid hRY
    clear hRY
    obtain ⟨GY, fY, kY⟩ := R
    dsimp only at CY
    go_upto_region 9 with (go_at_call 33; (with_reducible refine (CY.out).mono ?_); rintro e w8 ⟨v8, rfl, ho8, hb8⟩)
    obtain ⟨Ya, Yc, rfl, _⟩ := rowR_of_own ho8
    have HY := Lib.hid ho8
    replace HB := Lib.hid (belStep HB.out hb8)
    replace HA := Lib.hid (OwnR.later HA.out hb8)
    replace HZ := Lib.hid (OwnR.later HZ.out hb8)
    replace HC := Lib.hid (OwnR.later HC.out hb8)
    replace HD := Lib.hid (OwnR.later HD.out hb8)
    replace HX := Lib.hid (OwnR.later HX.out hb8)
    have hszY := hb8.size
    clear ho8 hb8 CY
    generalize w8 = W8 at *
    have CL := Lib.hid (sw_Lost Aa n Ac L Ca ul Cc U W8 HLN.out (own_rowS HA.out) HUN.out (own_rowS HC.out) HUK.out HOK.out HRC.out (by omega) (by omega))
    go_upto_region 10 with (go_at_call 23; (with_reducible refine (CL.out).mono ?_); rintro e w9 ⟨v9, rfl, _, hb9⟩)
    replace HB := Lib.hid (belStep HB.out hb9)
    replace HA := Lib.hid (OwnR.later HA.out hb9)
    replace HZ := Lib.hid (OwnR.later HZ.out hb9)
    replace HC := Lib.hid (OwnR.later HC.out hb9)
    replace HD := Lib.hid (OwnR.later HD.out hb9)
    replace HX := Lib.hid (OwnR.later HX.out hb9)
    replace HY := Lib.hid (OwnR.later HY.out hb9)
    clear hb9 CL
    generalize w9 = W9 at *
    have CE := Lib.hid (sw_Extra Aa n Ac L Ca ul Cc U 1 W9 HLN.out (own_rowS HA.out) HUN.out (own_rowS HC.out) HUK.out HOK.out HRC.out (by omega) (by omega) (by unfold InI; simp))
    go_upto_region 11 with (go_at_call 27; (with_reducible refine (CE.out).mono ?_); rintro e w10 ⟨v10, rfl, _, hb10⟩)
    replace HB := Lib.hid (belStep HB.out hb10)
    replace HA := Lib.hid (OwnR.later HA.out hb10)
    replace HZ := Lib.hid (OwnR.later HZ.out hb10)
    replace HC := Lib.hid (OwnR.later HC.out hb10)
    replace HD := Lib.hid (OwnR.later HD.out hb10)
    replace HX := Lib.hid (OwnR.later HX.out hb10)
    replace HY := Lib.hid (OwnR.later HY.out hb10)
    clear hb10 CE
    generalize w10 = W10 at *
    have hsW := HB.out.size
    have HCE := Lib.hid (fun x (u : World) => eq_cont_same x u)
    go_wp2
    go_loopw [17] (fun iv wr => ∃ (k : Nat) (cs : List Value), k ≤ n ∧ iv = .int .i64 k ∧ Hid (TailE cs (L.flatMap ContV.cells) (k * 4)) ∧ Hid (OwnR wr W2.heap.size 35 4 (.slice Aa n Ac) n (cs)) ∧ Hid (OwnR wr W3.heap.size 46 3 (.slice Za mn Zc) mn (M.flatMap ImgV.cells)) ∧ Hid (OwnR wr W4.heap.size 9 1 (.slice Ca ul Cc) ul (U.map Value.string)) ∧ Hid (OwnR wr W5.heap.size 4 1 (.slice Da wl Dc) wl (V.map Value.bool)) ∧ Hid (OwnR wr W6.heap.size 9 1 (.slice Xa GX.length Xc) GX.length (GX.map Value.string)) ∧ Hid (OwnR wr W7.heap.size 9 1 (.slice Ya GY.length Yc) GY.length (GY.map Value.string)) ∧ Below w.heap.size w wr) (fun iv _ => n - (intOf iv).toNat)
    case atStart => exact ⟨0, _, Nat.zero_le _, rfl, Lib.hid (TailE.refl _ _), HA, HZ, HC, HD, HX, HY, HB.out⟩
    case round =>
      clear HA HZ HC HD HX HY HB
      obtain ⟨k, cs, hk, rfl, HT, HA, HZ, HC, HD, HX, HY, hbr⟩ := hrel
      by_cases hlt : k < n
      · have hd : decide ((k : Int) < (n : Int)) = true := decide_eq_true (by omega)
        have hki : (k : Int) < (n : Int) := by omega
        have hk0 : (0 : Int) ≤ (k : Int) := by omega
        obtain ⟨x, hx⟩ : ∃ x, L[k]? = some x := ⟨L[k]'(by rw [HLN.out]; exact hlt), List.getElem?_eq_getElem _⟩
        obtain ⟨bc, oc, ec, _, hcc⟩ := (HR.out.later hbr).elem ContV.cells_len (by omega) hx
        subst ec
        have c0 := keep (hcc 0 _ rfl)
        have c1 := keep (hcc 1 _ rfl)
        have c2 := keep (hcc 2 _ rfl)
        have c3 := keep (hcc 3 _ rfl)
        rw [Nat.add_zero] at c0
        rcases own_open HA.out with ⟨_, h0, _⟩ | ⟨g, gc, C, e9, hBg, hCb, hnc, hcm, hCl, hCt⟩
        · omega
        simp only [Value.slice.injEq, true_and] at e9
        obtain ⟨rfl, rfl⟩ := e9
        have z0 := keep (hCb.cell (take_cell hCt ((HT.out.2 (k * 4 + 0) (by omega)).trans (flat_cellC (j := 0) hx rfl))))
        have z1 := keep (hCb.cell (take_cell hCt ((HT.out.2 (k * 4 + 1) (by omega)).trans (flat_cellC (j := 1) hx rfl))))
        have z2 := keep (hCb.cell (take_cell hCt ((HT.out.2 (k * 4 + 2) (by omega)).trans (flat_cellC (j := 2) hx rfl))))
        have z3 := keep (hCb.cell (take_cell hCt ((HT.out.2 (k * 4 + 3) (by omega)).trans (flat_cellC (j := 3) hx rfl))))
        rw [Nat.add_zero] at z0
        have hbel : Below wr.heap.size wr wr := Below.refl _ _
        have heq := HCE.out x
        have hw : Below wr.heap.size wr wr := Below.refl _ _
        have HBR := Lib.hid hbr
        clear hx hcc hbr hCb hCt hCl
        go_upto_region 14 with fail
        have kk := fun d os => belStep hbel (below_regrown _ d os)
        refine wp_region_quiet_below (by kernel_rfl) (by kernel_rfl) ?_
        repeat ((with_reducible refine wpQuiet_step (fun K hK => ?_)); go_simp; (try (rw [if_neg]; rotate_left; · decide)); first | ((with_reducible refine hK _ ?_); clear hK K) | (apply Exists.intro; refine ⟨fun _ => ?_, hK _ ?_⟩; (fail); clear hK K))
        refine wpQuiet_nil (fun w1 hw1 => ?_)
        replace hbel := belStep hbel (bel_of_class hw1)
        clear hw1 kk
        clear c0 c1 c2 c3 z0 z1 z2 z3 hw heq
        have HBR2 := Lib.hid (belStep HBR.out hbel)
        replace HA := Lib.hid (OwnR.later HA.out hbel)
        replace HZ := Lib.hid (OwnR.later HZ.out hbel)
        replace HC := Lib.hid (OwnR.later HC.out hbel)
        replace HD := Lib.hid (OwnR.later HD.out hbel)
        replace HX := Lib.hid (OwnR.later HX.out hbel)
        replace HY := Lib.hid (OwnR.later HY.out hbel)
        clear hbel HBR
        generalize w1 = W14 at *
        rcases own_open HA.out with ⟨_, h0, _⟩ | ⟨g2, gc2, C, e9, hBg2, hCb, hnc2, hcm2, hCl, hCt⟩
        · omega
        simp only [Value.slice.injEq, Option.some.injEq, Addr.mk.injEq, and_true, true_and] at e9
        obtain ⟨rfl, rfl⟩ := e9
        obtain ⟨d0v, d0⟩ : ∃ v, W14.cell? ⟨g, k * 4, none⟩ = some v := ⟨_, hCb.cell (List.getElem?_eq_getElem (by rw [hCl]; omega))⟩
        obtain ⟨d1v, d1⟩ : ∃ v, W14.cell? ⟨g, k * 4 + 1, none⟩ = some v := ⟨_, hCb.cell (List.getElem?_eq_getElem (by rw [hCl]; omega))⟩
        obtain ⟨d2v, d2⟩ : ∃ v, W14.cell? ⟨g, k * 4 + 2, none⟩ = some v := ⟨_, hCb.cell (List.getElem?_eq_getElem (by rw [hCl]; omega))⟩
        obtain ⟨d3v, d3⟩ : ∃ v, W14.cell? ⟨g, k * 4 + 3, none⟩ = some v := ⟨_, hCb.cell (List.getElem?_eq_getElem (by rw [hCl]; omega))⟩
        have df := hCb.frozen
        have hgl := HGA.out g rfl
        have HOW2 := Lib.hid ((World.ownsRow.stored (World.ownsRow.stored (World.ownsRow.stored (World.ownsRow.stored HA.out (k * 4) (.string ⟨#[]⟩)).1 (k * 4 + 1) (.int .i64 0)).1 (k * 4 + 2) (.int .i64 0)).1 (k * 4 + 3) (.int .i64 0)).1)
        have HT2 := Lib.hid (TailE.set (TailE.set (TailE.set (TailE.set HT.out (k * 4) (q := (k + 1) * 4) (by omega) (by omega) (.string ⟨#[]⟩)) (k * 4 + 1) (q := (k + 1) * 4) (by omega) (by omega) (.int .i64 0)) (k * 4 + 2) (q := (k + 1) * 4) (by omega) (by omega) (.int .i64 0)) (k * 4 + 3) (q := (k + 1) * 4) (by omega) (by omega) (.int .i64 0))
        have HB2 := Lib.hid (belSet (belSet (belSet (belSet HBR2.out ⟨g, k * 4, none⟩ (.string ⟨#[]⟩) (show w.heap.size ≤ g by have := HWB.out; omega)) ⟨g, k * 4 + 1, none⟩ (.int .i64 0) (show w.heap.size ≤ g by have := HWB.out; omega)) ⟨g, k * 4 + 2, none⟩ (.int .i64 0) (show w.heap.size ≤ g by have := HWB.out; omega)) ⟨g, k * 4 + 3, none⟩ (.int .i64 0) (show w.heap.size ≤ g by have := HWB.out; omega))
        have HZn := Lib.hid (OwnR.setCell (OwnR.setCell (OwnR.setCell (OwnR.setCell HZ.out (a := ⟨g, k * 4, none⟩) (show g < W3.heap.size by omega) (.string ⟨#[]⟩)) (a := ⟨g, k * 4 + 1, none⟩) (show g < W3.heap.size by omega) (.int .i64 0)) (a := ⟨g, k * 4 + 2, none⟩) (show g < W3.heap.size by omega) (.int .i64 0)) (a := ⟨g, k * 4 + 3, none⟩) (show g < W3.heap.size by omega) (.int .i64 0))
        have HCn := Lib.hid (OwnR.setCell (OwnR.setCell (OwnR.setCell (OwnR.setCell HC.out (a := ⟨g, k * 4, none⟩) (show g < W4.heap.size by omega) (.string ⟨#[]⟩)) (a := ⟨g, k * 4 + 1, none⟩) (show g < W4.heap.size by omega) (.int .i64 0)) (a := ⟨g, k * 4 + 2, none⟩) (show g < W4.heap.size by omega) (.int .i64 0)) (a := ⟨g, k * 4 + 3, none⟩) (show g < W4.heap.size by omega) (.int .i64 0))
        have HDn := Lib.hid (OwnR.setCell (OwnR.setCell (OwnR.setCell (OwnR.setCell HD.out (a := ⟨g, k * 4, none⟩) (show g < W5.heap.size by omega) (.string ⟨#[]⟩)) (a := ⟨g, k * 4 + 1, none⟩) (show g < W5.heap.size by omega) (.int .i64 0)) (a := ⟨g, k * 4 + 2, none⟩) (show g < W5.heap.size by omega) (.int .i64 0)) (a := ⟨g, k * 4 + 3, none⟩) (show g < W5.heap.size by omega) (.int .i64 0))
        have HXn := Lib.hid (OwnR.setCell (OwnR.setCell (OwnR.setCell (OwnR.setCell HX.out (a := ⟨g, k * 4, none⟩) (show g < W6.heap.size by omega) (.string ⟨#[]⟩)) (a := ⟨g, k * 4 + 1, none⟩) (show g < W6.heap.size by omega) (.int .i64 0)) (a := ⟨g, k * 4 + 2, none⟩) (show g < W6.heap.size by omega) (.int .i64 0)) (a := ⟨g, k * 4 + 3, none⟩) (show g < W6.heap.size by omega) (.int .i64 0))
        have HYn := Lib.hid (OwnR.setCell (OwnR.setCell (OwnR.setCell (OwnR.setCell HY.out (a := ⟨g, k * 4, none⟩) (show g < W7.heap.size by omega) (.string ⟨#[]⟩)) (a := ⟨g, k * 4 + 1, none⟩) (show g < W7.heap.size by omega) (.int .i64 0)) (a := ⟨g, k * 4 + 2, none⟩) (show g < W7.heap.size by omega) (.int .i64 0)) (a := ⟨g, k * 4 + 3, none⟩) (show g < W7.heap.size by omega) (.int .i64 0))
        clear hCb hCl hCt hcm hcm2 HA HZ HC HD HX HY HT HBR2
        go_wp2
        go_roundw
        case rel => exact ⟨k + 1, _, by omega, by push_cast; rfl, HT2, HOW2, HZn, HCn, HDn, HXn, HYn, HB2.out⟩
        case measure => simp [intOf] <;> omega
      · obtain rfl : k = n := by omega
        have hd : decide ((k : Int) < (k : Int)) = false := decide_eq_false (by omega)
        have HB := Lib.hid hbr
        have hb0 : Below wr.heap.size wr wr := Below.refl _ _
        clear hbr HA HT
        generalize wr = W12 at *
        go_wp2
        go_loopw [18] (fun iv wr => ∃ k : Nat, k ≤ wl ∧ iv = .int .i64 k ∧ Below W12.heap.size W12 wr) (fun iv _ => wl - (intOf iv).toNat)
        case atStart => exact ⟨0, Nat.zero_le _, rfl, hb0⟩
        case round =>
          clear hb0
          obtain ⟨j, hj, rfl, hbr⟩ := hrel
          by_cases hlj : j < wl
          · have hd : decide ((j : Int) < (wl : Int)) = true := decide_eq_true (by omega)
            have hji : (j : Int) < (wl : Int) := by omega
            have hj0 : (0 : Int) ≤ (j : Int) := by omega
            obtain ⟨bv, hbv⟩ : ∃ b, V[j]? = some b := ⟨V[j]'(by rw [HVL.out]; exact hlj), List.getElem?_eq_getElem _⟩
            obtain ⟨b1, o1, e1, k1⟩ := bool_cell ((own_rowS HD.out).later hbr) hbv
            obtain ⟨b2, o2, e2, k2⟩ := bool_cell (HRV.out.later (belStep HB.out hbr)) hbv
            subst e1 e2
            have y0 := keep k1
            have z0 := keep k2
            clear k1 k2 hbv
            have hbel : Below wr.heap.size wr wr := Below.refl _ _
            have HBR := Lib.hid hbr
            clear hbr
            go_upto_region 20 with fail
            cases bv with
            | false =>
              have kk := fun d os => belStep hbel (below_regrown _ d os)
              refine wp_region_quiet_below (by kernel_rfl) (by kernel_rfl) ?_
              repeat ((with_reducible refine wpQuiet_step (fun K hK => ?_)); go_simp; (try (rw [if_neg]; rotate_left; · decide)); first | ((with_reducible refine hK _ ?_); clear hK K) | (apply Exists.intro; refine ⟨fun _ => ?_, hK _ ?_⟩; (fail); clear hK K))
              refine wpQuiet_nil (fun w1 hw1 => ?_)
              replace hbel := belStep hbel (bel_of_class hw1)
              clear hw1 kk
              go_wp2
              go_roundw
              case rel => exact ⟨j + 1, by omega, by push_cast; rfl, belStep HBR.out hbel⟩
              case measure => simp [intOf] <;> omega
            | true =>
              have kk := fun d os => belStep hbel (below_regrown _ d os)
              refine wp_region_quiet_below (by kernel_rfl) (by kernel_rfl) ?_
              repeat ((with_reducible refine wpQuiet_step (fun K hK => ?_)); go_simp; (try (rw [if_neg]; rotate_left; · decide)); first | ((with_reducible refine hK _ ?_); clear hK K) | (apply Exists.intro; refine ⟨fun _ => ?_, hK _ ?_⟩; (fail); clear hK K))
              refine wpQuiet_nil (fun w1 hw1 => ?_)
              replace hbel := belStep hbel (bel_of_class hw1)
              clear hw1 kk
              go_wp2
              go_roundw
              case rel => exact ⟨j + 1, by omega, by push_cast; rfl, belStep HBR.out hbel⟩
              case measure => simp [intOf] <;> omega
          · obtain rfl : j = wl := by omega
            have hd : decide ((j : Int) < (j : Int)) = false := decide_eq_false (by omega)
            replace HB := Lib.hid (belStep HB.out hbr)
            replace HZ := Lib.hid (OwnR.later HZ.out hbr)
            replace HC := Lib.hid (OwnR.later HC.out hbr)
            replace HX := Lib.hid (OwnR.later HX.out hbr)
            replace HY := Lib.hid (OwnR.later HY.out hbr)
            clear hbr HD
            generalize wr = W18 at *
            have CS1 := Lib.hid (((sameI_iff M M).2 rfl) ▸ iref_Same Za mn Zc M m mn mc M W18 HML.out (own_rowS HZ.out) HML.out (HRM.out.later HB.out))
            have CS2 := Lib.hid (fun u (hu : Below W18.heap.size W18 u) => (same_refl U) ▸ sames_any Ca b ul ul Cc uc U U u HUN.out HUN.out ((own_rowS HC.out).later hu) (HRU.out.later (belStep HB.out hu)))
            have hbel : Below W18.heap.size W18 W18 := Below.refl _ _
            go_upto_region 23 with (first | (go_at_call 36; (with_reducible refine (CS1.out).mono ?_); rintro e w19 ⟨rfl, hb_⟩; have HB19 := Lib.hid hb_; clear hb_) | (go_at_call 22; (with_reducible refine (CS2.out _ HB19.out).mono ?_); rintro e w20 ⟨rfl, hb_⟩; have HB20 := Lib.hid (belStep HB19.out hb_); clear hb_))
            replace HB := Lib.hid (belStep HB.out HB20.out)
            replace HZ := Lib.hid (OwnR.later HZ.out HB20.out)
            replace HC := Lib.hid (OwnR.later HC.out HB20.out)
            replace HX := Lib.hid (OwnR.later HX.out HB20.out)
            replace HY := Lib.hid (OwnR.later HY.out HB20.out)
            clear HB19 HB20 CS1 CS2 hbel
            generalize w20 = W20 at *
            go_wp2
            go_loopw [20] (fun iv wr => ∃ (k : Nat) (cs : List Value), k ≤ mn ∧ iv = .int .i64 k ∧ Hid (OwnR wr W3.heap.size 46 3 (.slice Za mn Zc) mn (cs)) ∧ Hid (OwnR wr W4.heap.size 9 1 (.slice Ca ul Cc) ul (U.map Value.string)) ∧ Hid (OwnR wr W6.heap.size 9 1 (.slice Xa GX.length Xc) GX.length (GX.map Value.string)) ∧ Hid (OwnR wr W7.heap.size 9 1 (.slice Ya GY.length Yc) GY.length (GY.map Value.string)) ∧ Below w.heap.size w wr) (fun iv _ => mn - (intOf iv).toNat)
            case atStart => exact ⟨0, _, Nat.zero_le _, rfl, HZ, HC, HX, HY, HB.out⟩
            case round =>
              clear HZ HC HX HY HB
              obtain ⟨i, cs, hi, rfl, HZ, HC, HX, HY, hbr⟩ := hrel
              by_cases hlt3 : i < mn
              · have hd : decide ((i : Int) < (mn : Int)) = true := decide_eq_true (by omega)
                have hii : (i : Int) < (mn : Int) := by omega
                have hi0 : (0 : Int) ≤ (i : Int) := by omega
                rcases own_open HZ.out with ⟨_, h0, _⟩ | ⟨g, gc, C, e9, hBg, hCb, hnc, hcm, hCl, _⟩
                · omega
                simp only [Value.slice.injEq, true_and] at e9
                obtain ⟨rfl, rfl⟩ := e9
                obtain ⟨d0v, d0⟩ : ∃ v, wr.cell? ⟨g, i * 3, none⟩ = some v := ⟨_, hCb.cell (List.getElem?_eq_getElem (by rw [hCl]; omega))⟩
                obtain ⟨d1v, d1⟩ : ∃ v, wr.cell? ⟨g, i * 3 + 1, none⟩ = some v := ⟨_, hCb.cell (List.getElem?_eq_getElem (by rw [hCl]; omega))⟩
                obtain ⟨d2v, d2⟩ : ∃ v, wr.cell? ⟨g, i * 3 + 2, none⟩ = some v := ⟨_, hCb.cell (List.getElem?_eq_getElem (by rw [hCl]; omega))⟩
                have df := hCb.frozen
                have hgl := HGZ.out g rfl
                have HOW2 := Lib.hid ((World.ownsRow.stored (World.ownsRow.stored (World.ownsRow.stored HZ.out (i * 3) (.string ⟨#[]⟩)).1 (i * 3 + 1) (.int .i64 0)).1 (i * 3 + 2) (.int .i64 0)).1)
                have HB2 := Lib.hid (belSet (belSet (belSet hbr ⟨g, i * 3, none⟩ (.string ⟨#[]⟩) (show w.heap.size ≤ g by have := HWB.out; omega)) ⟨g, i * 3 + 1, none⟩ (.int .i64 0) (show w.heap.size ≤ g by have := HWB.out; omega)) ⟨g, i * 3 + 2, none⟩ (.int .i64 0) (show w.heap.size ≤ g by have := HWB.out; omega))
                have HCn := Lib.hid (OwnR.setCell (OwnR.setCell (OwnR.setCell HC.out (a := ⟨g, i * 3, none⟩) (show g < W4.heap.size by omega) (.string ⟨#[]⟩)) (a := ⟨g, i * 3 + 1, none⟩) (show g < W4.heap.size by omega) (.int .i64 0)) (a := ⟨g, i * 3 + 2, none⟩) (show g < W4.heap.size by omega) (.int .i64 0))
                have HXn := Lib.hid (OwnR.setCell (OwnR.setCell (OwnR.setCell HX.out (a := ⟨g, i * 3, none⟩) (show g < W6.heap.size by omega) (.string ⟨#[]⟩)) (a := ⟨g, i * 3 + 1, none⟩) (show g < W6.heap.size by omega) (.int .i64 0)) (a := ⟨g, i * 3 + 2, none⟩) (show g < W6.heap.size by omega) (.int .i64 0))
                have HYn := Lib.hid (OwnR.setCell (OwnR.setCell (OwnR.setCell HY.out (a := ⟨g, i * 3, none⟩) (show g < W7.heap.size by omega) (.string ⟨#[]⟩)) (a := ⟨g, i * 3 + 1, none⟩) (show g < W7.heap.size by omega) (.int .i64 0)) (a := ⟨g, i * 3 + 2, none⟩) (show g < W7.heap.size by omega) (.int .i64 0))
                clear hCb hCl hcm hbr HZ HC HX HY
                go_wp2
                go_roundw
                case rel => exact ⟨i + 1, _, by omega, by push_cast; rfl, HOW2, HCn, HXn, HYn, HB2.out⟩
                case measure => simp [intOf] <;> omega
              · obtain rfl : i = mn := by omega
                have hd : decide ((i : Int) < (i : Int)) = false := decide_eq_false (by omega)
                have HB := Lib.hid hbr
                clear hbr HZ
                generalize wr = W24 at *
                go_wp2
                go_loopw [21] (fun iv wr => ∃ (k : Nat) (cs : List Value), k ≤ ul ∧ iv = .int .i64 k ∧ Hid (OwnR wr W4.heap.size 9 1 (.slice Ca ul Cc) ul (cs)) ∧ Hid (OwnR wr W6.heap.size 9 1 (.slice Xa GX.length Xc) GX.length (GX.map Value.string)) ∧ Hid (OwnR wr W7.heap.size 9 1 (.slice Ya GY.length Yc) GY.length (GY.map Value.string)) ∧ Below w.heap.size w wr) (fun iv _ => ul - (intOf iv).toNat)
                case atStart => exact ⟨0, _, Nat.zero_le _, rfl, HC, HX, HY, HB.out⟩
                case round =>
                  clear HC HX HY HB
                  obtain ⟨q, cs, hq, rfl, HC, HX, HY, hbr⟩ := hrel
                  by_cases hlt4 : q < ul
                  · have hd : decide ((q : Int) < (ul : Int)) = true := decide_eq_true (by omega)
                    have hqi : (q : Int) < (ul : Int) := by omega
                    have hq0 : (0 : Int) ≤ (q : Int) := by omega
                    rcases own_open HC.out with ⟨_, h0, _⟩ | ⟨g, gc, C, e9, hBg, hCb, hnc, hcm, hCl, _⟩
                    · omega
                    simp only [Value.slice.injEq, true_and] at e9
                    obtain ⟨rfl, rfl⟩ := e9
                    obtain ⟨d0v, d0⟩ : ∃ v, wr.cell? ⟨g, q, none⟩ = some v := ⟨_, hCb.cell (List.getElem?_eq_getElem (by rw [hCl]; omega))⟩
                    have df := hCb.frozen
                    have hgl := HGC.out g rfl
                    have HOW2 := Lib.hid ((World.ownsRow.stored HC.out (q) (.string ⟨#[63]⟩)).1)
                    have HB2 := Lib.hid (belSet hbr ⟨g, q, none⟩ (.string ⟨#[63]⟩) (show w.heap.size ≤ g by have := HWB.out; omega))
                    have HXn := Lib.hid (OwnR.setCell HX.out (a := ⟨g, q, none⟩) (show g < W6.heap.size by omega) (.string ⟨#[63]⟩))
                    have HYn := Lib.hid (OwnR.setCell HY.out (a := ⟨g, q, none⟩) (show g < W7.heap.size by omega) (.string ⟨#[63]⟩))
                    clear hCb hCl hcm hbr HC HX HY
                    go_wp2
                    go_roundw
                    case rel => exact ⟨q + 1, _, by omega, by push_cast; rfl, HOW2, HXn, HYn, HB2.out⟩
                    case measure => simp [intOf] <;> omega
                  · obtain rfl : q = ul := by omega
                    have hd : decide ((q : Int) < (q : Int)) = false := decide_eq_false (by omega)
                    have HB := Lib.hid hbr
                    have hbel : Below wr.heap.size wr wr := Below.refl _ _
                    clear hbr HC
                    generalize wr = W28 at *
                    have CR := Lib.hid (fun u (hu : Below W28.heap.size W28 u) => HRY.out ▸ swref_Collect m i mc M b q uc U 9 d j wc V u HML.out (HRM.out.later (belStep HB.out hu)) HMI.out HUN.out (HRU.out.later (belStep HB.out hu)) HVL.out (HRV.out.later (belStep HB.out hu)) HMK.out (by omega))
                    dsimp only at CR
                    have CDR := Lib.hid (fun u (hu : Below W28.heap.size W28 u) => HGX.out ▸ cref_Dead a k c L b q uc U u HLN.out (HR.out.later (belStep HB.out hu)) HUN.out (HRU.out.later (belStep HB.out hu)) HRC.out (by omega))
                    go_wp2_with (first | (go_at_call 34; (with_reducible refine (CR.out _ hbel).mono ?_); rintro e w31 ⟨v31, rfl, ho_, hb_⟩; obtain ⟨ta, tc, rfl, hr_⟩ := rowR_of_own ho_; have HT1 := Lib.hid hr_; clear ho_ hr_; have hbz := belStep hbel hb_; clear hbel; have hbel := hbz; clear hbz hb_) | (go_at_call 26; (with_reducible refine (CDR.out _ hbel).mono ?_); rintro e w32 ⟨v32, rfl, ho_, hb_⟩; obtain ⟨sa, sc, rfl, hr_⟩ := rowR_of_own ho_; have HS1 := Lib.hid hr_; replace HT1 := Lib.hid (HT1.out.later hb_); clear ho_ hr_; have hbz := belStep hbel hb_; clear hbel; have hbel := hbz; clear hbz hb_) | (go_at_call 22; (with_reducible refine (same_call _ _ _ _ GX _ ((own_rowS HX.out).later hbel) HS1.out).mono ?_); rintro e w33 ⟨rfl, hb_⟩; replace HT1 := Lib.hid (HT1.out.later hb_); have hbz := belStep hbel hb_; clear hbel; have hbel := hbz; clear hbz hb_) | (go_at_call 22; (with_reducible refine (same_call _ _ _ _ GY _ ((own_rowS HY.out).later hbel) HT1.out).mono ?_); rintro e w34 ⟨rfl, hb_⟩; have hbz := belStep hbel hb_; clear hbel; have hbel := hbz; clear hbz hb_))
                    go_ret
                    exact ⟨by first | rfl | simp, belStep HB.out hbel⟩

set_option maxRecDepth 100000 in
theorem lifted (os : Os) (started : os.Started) (H : Type) (enc : TypeId × Value → H) :
    ReturnsInHanded {} Try.checked os 10 .any (Rows.sweepKeepsSpec.pre6 enc Try.prog Try.f10 Rows.sweepKeepsRow.domain false) (Rows.sweepKeepsSpec.post enc Try.prog Try.f10 false true false false) := by
  refine returnsInHanded_of_change (C := Try.checked) own started (by kernel_rfl) Try.func10
    (ChangeSpec.witness6 (enc := enc) (C := Try.checked) false ⟨#[], #[.slice none 0 0, .slice none 0 0, .slice none 0 0, .slice none 0 0], []⟩ 8 (by kernel_rfl) (by kernel_rfl) (by kernel_rfl) (by kernel_rfl)) ?_
  intro W base args ds gs before hval0 hW hcnd _
  have hval : ∀ (j : Nat) t v, Try.f10.params[j]? = some t → args[j]? = some v → Value.okWide Try.prog W .any base t v := hval0
  have hW' := hW
  obtain ⟨p, q, hA0, hV, rfl, hfz, hnd⟩ := hW
  have hA : DataW.TrodAll enc Try.prog W 0 (fun _ => true) true Try.f10.params.toList args.toList ds p := hA0
  rw [Try.params10] at hA hval
  obtain ⟨v0, vs0, d0, ds0, p0, q0, hargs, rfl, rfl, h0, r0⟩ := trodAll_cons hA
  obtain ⟨v1, vs1, d1, ds1, p1, q1, rfl, rfl, rfl, h1, r1⟩ := trodAll_cons r0
  obtain ⟨v2, vs2, d2, ds2, p2, q2, rfl, rfl, rfl, h2, r2⟩ := trodAll_cons r1
  obtain ⟨v3, vs3, d3, ds3, p3, q3, rfl, rfl, rfl, h3, r3⟩ := trodAll_cons r2
  obtain ⟨rfl, rfl, rfl⟩ := trodAll_nil r3
  obtain rfl : args = #[v0, v1, v2, v3] := by cases args; simp_all
  obtain ⟨rfl, rfl⟩ := trodVars_none hV
  have k0 := h0
  have lt0 : ∀ x ∈ p0, x.block < W.heap.size := by obtain ⟨m, hm⟩ := k0; exact DataW.trod_lt m _ _ _ hm
  have o0 : Value.okWide Try.prog W .any base 22 v0 := hval 0 22 v0 rfl rfl
  obtain ⟨xa0, xn0, xc0, xl0, rfl, fl0, fo0, fr0⟩ := open_conts o0 h0
  have k1 := h1
  have lt1 : ∀ x ∈ p1, x.block < W.heap.size := by obtain ⟨m, hm⟩ := k1; exact DataW.trod_lt m _ _ _ hm
  have o1 : Value.okWide Try.prog W .any base 39 v1 := hval 1 39 v1 rfl rfl
  obtain ⟨ma1, mn1, mc1, ml1, rfl, gm1, gk1, gq1⟩ := open_imgs o1 h1
  have k2 := h2
  have lt2 : ∀ x ∈ p2, x.block < W.heap.size := by obtain ⟨m, hm⟩ := k2; exact DataW.trod_lt m _ _ _ hm
  have o2 : Value.okWide Try.prog W .any base 23 v2 := hval 2 23 v2 rfl rfl
  obtain ⟨ya2, yn2, yc2, yu2, rfl, gl2, go2, gr2⟩ := open_texts o2 h2
  have k3 := h3
  have lt3 : ∀ x ∈ p3, x.block < W.heap.size := by obtain ⟨m, hm⟩ := k3; exact DataW.trod_lt m _ _ _ hm
  have o3 : Value.okWide Try.prog W .any base 40 v3 := hval 3 40 v3 rfl rfl
  obtain ⟨a3, len3, cap3, rfl⟩ := okWide_slice Try.underlying40 o3
  obtain ⟨z3, w3⟩ : ∃ zs, Bools W a3 len3 cap3 zs := bools_of_trod Try.underlying40 Try.underlying4 (by kernel_rfl) h3
  clear hA0 hval0
  refine (walk xa0 xn0 xc0 xl0 ma1 mn1 mc1 ml1 ya2 yn2 yc2 yu2 a3 len3 cap3 z3 W fl0 fo0 fr0 gm1 gk1 gq1 gl2 go2 gr2 w3).mono fun e W' ⟨he, bel⟩ => ?_
  subst he
  exact ⟨_, rfl, _, _, _, [], _, [], hW', trodAll_mk1 (shut_bool Try.underlying4 _), (trodAll_cons_mk (Below.trod laidOut (by kernel_rfl) (of_decide_eq_true (by kernel_rfl)) k0 bel lt0) (trodAll_cons_mk (Below.trod laidOut (by kernel_rfl) (of_decide_eq_true (by kernel_rfl)) k1 bel lt1) (trodAll_cons_mk (Below.trod laidOut (by kernel_rfl) (of_decide_eq_true (by kernel_rfl)) k2 bel lt2) (trodAll_cons_mk (Below.trod laidOut (by kernel_rfl) (of_decide_eq_true (by kernel_rfl)) k3 bel lt3) trodAll_mk0)))), rfl, bel.frame _, fun h => by cases h⟩

theorem over : Rows.sweepKeepsRow.holds Try.pinned (OpenSpec.ofChange Rows.sweepKeepsSpec) :=
  OpenClaim.holds_of_wide 10 Try.f10 rfl rfl rfl rfl rfl rfl rfl ⟨rfl, rfl, rfl, rfl, rfl⟩ rfl rfl rfl rfl rfl (by kernel_rfl) Try.func10 (by kernel_rfl)
    (of_decide_eq_true (by kernel_rfl)) (by unfold Func.isWrapper; first | (rw [if_pos (by decide +kernel)]; kernel_rfl) | (rw [if_neg (by decide +kernel)]; exact ⟨rfl, rfl⟩))
    (fun os started H enc _ => lifted os started H enc)

/-- The statement. -/
theorem proved : Rows.SweepKeepsSaid := over
#print axioms proved

end Go.Proofs.Ytampkolkbjmmkaa.sweepKeeps
