
/- lex.Lines: contract. -/
import Derived.Test.YtcaenbobfneejaaGreatDoorLexRM
import Derived.Test.YtcaenbobfneejaaGreatDoorAppS
import Derived.Test.YtcaenbobfneejaaGreatDoorLast
import Derived.Test.YtcaenbobfneejaaGreatDoorShelf
import Derived.Shelf.Bytes.SlSmallAll
import Derived.Laws.BytesArg
import Derived.Deep.LoopGhost
namespace Go.Proofs.YtcaenbobfneejaaGreatDoor
open Go.RowKit
set_option linter.unusedVariables false
set_option linter.unusedSimpArgs false
def LinesP (w : World) (L : List UInt8) (e : Ending) (w' : World) : Prop :=
  (readB L = true ∧ ∃ b n vs, e = .returned (.tuple #[.slice b (fieldsF L).length n, .int .i64 0]) ∧ RowsF w' w.heap.size (.slice b (fieldsF L).length n) (fieldsF L) vs) ∨ (readB L = false ∧ e = .returned (.tuple #[.slice none 0 0, .int .i64 2]))
/-- 'string(b)'. -/
theorem conv_str {w : World} {a : Option Addr} {len cap : Nat} {l : List Int} (h : Ints .u8 w a len cap l) : (convert 22 9 (.slice a len cap)).run Tryz.prog w = .ok (.string (strOfNums l)) w := by
  have hb := h.bounds
  by_cases h0 : len = 0
  · subst h0
    obtain rfl : l = [] := List.eq_nil_of_length_eq_zero hb.1
    exact run_convert_bytes_zero w _ _ Tryz.underlying22 Tryz.underlying5 a cap _ Tryz.underlying9
  · obtain ⟨b, off, rfl, _, hc⟩ := h.opened (by omega)
    exact run_convert_bytes_arg (P := Tryz.prog) w _ _ Tryz.underlying22 Tryz.underlying5 b off len cap l hb.1 hc _ Tryz.underlying9
theorem str_nums (L : List UInt8) : strOfNums (numsL L) = bA L := by
  unfold strOfNums numsL bA
  congr 1
  have h : (L.map (fun c => (c.toNat : Int))).map (fun n => UInt8.ofNat n.toNat) = L := by
    rw [List.map_map]
    refine (List.map_congr_left (fun c _ => ?_)).trans (List.map_id L)
    show UInt8.ofNat ((c.toNat : Int)).toNat = c
    rw [Int.toNat_natCast]; simp
  rw [h]
theorem info_row : (Tryz.prog.info? 43).map (fun i => (i.zero, i.size, i.bytes)) = some (some (.slice none 0 0), 1, 24) := by kernel_rfl
theorem info_fld : (Tryz.prog.info? 45).map (fun i => (i.zero, i.size, i.bytes)) = some (some (.agg #[.string ⟨#[]⟩, .int .i64 0, .int .i64 0]), 3, 32) := by kernel_rfl
theorem split_c (L : List UInt8) (m : Int) (w : World) (hs : L.length ≤ 65536) (hm : w.cell? ⟨0, 0, none⟩ = some (.int .i64 m)) :
    Calls Tryz.prog 31 #[.string (bA L), .string ⟨#[10]⟩] w fun e w' => e = .returned (.slice (some ⟨w.heap.size, 0, none⟩) (linesL L).length (linesL L).length) ∧ w' = w.alloc (.cells ((linesL L).map (fun l => Value.string (bA l))).toArray 9) := by
  refine (Tryz.strings_Split (bA L) ⟨#[10]⟩ m w (by rw [bA_size]; omega) hm (by decide)).mono ?_
  rintro e w' ⟨rfl, rfl⟩
  have h1 := lines_len (bA L)
  have h2 := split_lines (bA L)
  rw [bA_data] at h1 h2
  refine ⟨by rw [h1], ?_⟩
  rw [h2, List.map_map]
  rfl
theorem rows_exit {n : Int} {l : List UInt8} {cur : List FldV} {p : Nat} (h : lineF n l = cur ++ scan n p none (l.drop p)) (he : scan n p none (l.drop p) = []) : (if cur.isEmpty then ([] : List (List FldV)) else [cur]) = oneF n l := by
  rw [he, List.append_nil] at h
  unfold oneF
  rw [h]
theorem ext_word (l : List UInt8) {p : Nat} (h : p ≤ l.length) : (bA l).extract p (endP l p) = bA ((l.drop p).takeWhile (fun c => !blankB c)) := by
  refine ext_data ?_
  rw [Lib.extract_data, bA_data, bA_data, word_cut l h]
set_option maxRecDepth 100000 in
set_option maxHeartbeats 16000000 in
theorem lex_Lines (a : Option Addr) (len cap : Nat) (L : List UInt8) (m : Int) (w : World) (hI : Ints .u8 w a len cap (numsL L)) (hm : w.cell? ⟨0, 0, none⟩ = some (.int .i64 m)) :
    Calls Tryz.prog 12 #[.slice a len cap] w fun e w' => LinesP w L e w' ∧ Below w.heap.size w w' := by
  have hw : Below w.heap.size w w := Below.refl _ _
  have hbel := hw
  have HI := Lib.hid hI
  have HM := Lib.hid hm
  obtain ⟨q, hq⟩ : ∃ q, readB L = q := ⟨_, rfl⟩
  have CR := Lib.hid (fun u (hu : Below w.heap.size w u) => hq ▸ lex_readable a len cap L u (hI.later hu))
  have HQ := Lib.hid hq
  clear hq
  rcases q with _ | _
  · clear hI
    go_enter Tryz.func12, Tryz.ntmps12
    go_wp2
    go_step3
    go_wp2_with (go_at_call 30; (with_reducible refine (CR.out _ (Below.refl _ _)).mono ?_); rintro e w1 ⟨rfl, rfl⟩)
    (try rw [Exit.noGoto_ret])
    go_ret2
    exact ⟨.inr ⟨HQ.out, rfl⟩, hbel⟩
  · have hL : L.length ≤ 65536 := by have h := HQ.out; unfold readB at h; simp only [Bool.and_eq_true, decide_eq_true_eq] at h; exact h.2
    have hcv := (str_nums L) ▸ conv_str hI
    have CSP := Lib.hid (split_c L m w hL hm)
    obtain ⟨R, hR⟩ : ∃ R, linesL L = R := ⟨_, rfl⟩
    rw [hR] at CSP
    have HR := Lib.hid hR
    clear hR hI hm
    go_enter Tryz.func12, Tryz.ntmps12
    go_wp2
    go_step3
    go_wp2_with (go_at_call 30; (with_reducible refine (CR.out _ (Below.refl _ _)).mono ?_); rintro e w1 ⟨rfl, rfl⟩)
    go_step3
    clear CR
    go_wp2_with (go_at_call 31; (with_reducible refine CSP.out.mono ?_); rintro e w1 ⟨rfl, rfl⟩)
    have hRl := lines_le L
    rw [HR.out] at hRl
    have hR1 : R.length ≤ 65537 := by omega
    have HEACH := Lib.hid (show ∀ l ∈ R, l.length ≤ 65536 from fun l hl => Nat.le_trans (hRl.2 l hl) hL)
    clear hRl hcv
    have HSR := Lib.hid (fun (k : Nat) (l : List UInt8) (h : R[k]? = some l) => (show (w.alloc (.cells (R.map (fun l => Value.string (bA l))).toArray 9)).cell? ⟨w.heap.size, k, none⟩ = some (.string (bA l)) from (Blk.new w (R.map (fun l => Value.string (bA l))) 9).cell (by rw [List.getElem?_map, h]; rfl)))
    have hw2 := belAlloc hw (.cells (R.map (fun l => Value.string (bA l))).toArray 9)
    generalize w.alloc (.cells (R.map (fun l => Value.string (bA l))).toArray 9) = W2 at *
    clear hw hbel
    have hw := hw2
    clear hw2
    have HB0 := Lib.hid (Below.refl W2.heap.size W2)
    go_loopg [4, 18] R.length (fun g av iv wr => ∃ (k : Nat) (vs : List Value) (oa : Option Addr) (oc nl : Nat), k + g = R.length ∧ iv = .int .i64 k ∧ av = .slice oa nl oc ∧ Hid ((allF 1 (R.take k)).length = nl) ∧ Hid (RowsF wr W2.heap.size (.slice oa nl oc) (allF 1 (R.take k)) vs) ∧ Below W2.heap.size W2 wr)
    case atStart => exact ⟨0, [], none, 0, 0, by omega, rfl, rfl, Lib.hid rfl, Lib.hid (RowsF.nil _ _), HB0.out⟩
    case round =>
      obtain ⟨k, vs, oa, oc, nl, hkg, rfl, rfl, HNL0, HR0, hbel⟩ := hrel
      clear HB0
      cases gk with
      | zero =>
        obtain rfl : k = R.length := by omega
        have hd : decide ((R.length : Int) < (R.length : Int)) = false := decide_eq_false (by omega)
        have HF := Lib.hid (show allF 1 (R.take R.length) = fieldsF L by rw [List.take_length, ← HR.out]; rfl)
        rw [HF.out] at HNL0 HR0
        have HNF := Lib.hid HNL0.out
        clear hkg
        go_wp2
        (try rw [Exit.noGoto_ret])
        go_ret2
        refine ⟨.inl ⟨HQ.out, oa, oc, vs, ?_, ?_⟩, belStep hw hbel⟩
        · rw [HNF.out]; rfl
        · rw [HNF.out]; exact HR0.out.mono hw.size
      | succ g =>
        have hlt : k < R.length := by omega
        have hd : decide ((k : Int) < (R.length : Int)) = true := decide_eq_true (by omega)
        have hki : (k : Int) < (R.length : Int) := by omega
        have hk0 : (0 : Int) ≤ (k : Int) := by omega
        obtain ⟨l, hl⟩ : ∃ l, R[k]? = some l := ⟨R[k], List.getElem?_eq_getElem hlt⟩
        have cs := keep (HSR.out k l hl)
        have hl6 : l.length ≤ 65536 := HEACH.out l (List.mem_of_getElem? hl)
        have HAN := Lib.hid (allF_next (n := 1) hl)
        have hLKl : (allF 1 (R.take k)).length ≤ 65537 := by have := allF_len 1 (R.take k); rw [List.length_take] at this; omega
        clear hl
        obtain ⟨LK, hLK⟩ : ∃ x, allF 1 (R.take k) = x := ⟨_, rfl⟩
        rw [hLK] at HNL0 HR0 HAN hLKl
        rw [show (1 : Int) + (k : Int) = (k : Int) + 1 by omega] at HAN
        clear hLK
        generalize wr = WO at *
        have HBO := Lib.hid hbel
        go_wp2
        clear hbel
        go_loopg [4, 7, 8] (l.length + 1) (fun g2 av bv pv wr => ∃ (p : Nat) (cur : List FldV) (vs : List Value) (oa : Option Addr) (oc nl : Nat) (bg : Bool), l.length + 1 ≤ p + g2 ∧ p ≤ l.length + 1 ∧ cur.length ≤ p ∧ pv = .int .i64 p ∧ bv = .bool bg ∧ Hid ((!cur.isEmpty) = bg) ∧ Hid (lineF ((k : Int) + 1) l = cur ++ scan ((k : Int) + 1) p none (l.drop p)) ∧ av = .slice oa nl oc ∧ Hid ((LK ++ curL cur).length = nl) ∧ Hid (RowsF wr W2.heap.size (.slice oa nl oc) (LK ++ curL cur) vs) ∧ Below W2.heap.size W2 wr)
        case atStart => exact ⟨0, [], vs, oa, oc, nl, false, by omega, by omega, Nat.le_refl _, rfl, rfl, Lib.hid rfl, Lib.hid rfl, rfl, Lib.hid (by rw [curL_nil, List.append_nil]; exact HNL0.out), Lib.hid (by rw [curL_nil, List.append_nil]; exact HR0.out), HBO.out⟩
        case round =>
          obtain ⟨p, cur, vs, oa, oc, nl, bg, hg2, hp, hcp, rfl, rfl, HBG, HSC, rfl, HNL, HR1, hbel⟩ := hrel
          clear HNL0 HR0 HBO
          have hlz : (bA l).size = l.length := bA_size l
          by_cases hpl : p < l.length
          · obtain ⟨c, HLX0⟩ : ∃ c, l[p]? = some c := ⟨l[p], List.getElem?_eq_getElem hpl⟩
            have HLX := Lib.hid HLX0
            have hidx : (bA l)[p]'(by rw [bA_size]; exact hpl) = c := by have h := at_list (bA l) (k := p) (by rw [bA_size]; exact hpl); rw [bA_data, HLX.out] at h; exact (Option.some.inj h).symm
            clear HLX0
            cases gk with
            | zero => exfalso; omega
            | succ g2 =>
              have hdp : decide ((p : Int) < (l.length : Int)) = true := decide_eq_true (by omega)
              have hpi : (p : Int) < (l.length : Int) := by omega
              have hp0 : (0 : Int) ≤ (p : Int) := by omega
              obtain ⟨b, hb⟩ : ∃ b, blankB c = b := ⟨_, rfl⟩
              have CB := Lib.hid (fun u => hb ▸ lex_blank c u)
              have HBL := Lib.hid hb
              clear hb
              obtain ⟨b5, hb5⟩ : ∃ b, (c == 35) = b := ⟨_, rfl⟩
              have k5 := byte_eq c 35
              rw [show ((35 : UInt8).toNat : Int) = 35 from rfl, hb5] at k5
              have H35 := Lib.hid hb5
              clear hb5
              rcases b with _ | _
              rotate_left 1
              · have HSC2 := Lib.hid (show lineF ((k : Int) + 1) l = cur ++ scan ((k : Int) + 1) (p + 1) none (l.drop (p + 1)) by rw [HSC.out, scan_blank HLX.out HBL.out])
                go_wp2_with (go_at_call 32; (with_reducible refine (CB.out _).mono ?_); rintro e w3 ⟨rfl, rfl⟩)
                go_roundg g2
                case rel => exact ⟨p + 1, cur, vs, oa, oc, nl, bg, by omega, by omega, by omega, by push_cast; rfl, rfl, HBG, HSC2, rfl, HNL, HR1, hbel⟩
                case measure => omega
              rcases b5 with _ | _
              rotate_left 1
              · have HSC2 := HSC
                have HX := Lib.hid (show LK ++ curL cur = allF 1 (R.take (k + 1)) by rw [HAN.out]; congr 1; exact rows_exit HSC.out (scan_remark HLX.out HBL.out H35.out))
                go_wp2_with (go_at_call 32; (with_reducible refine (CB.out _).mono ?_); rintro e w3 ⟨rfl, rfl⟩)
                go_roundg g
                case rel => exact ⟨k + 1, vs, oa, oc, nl, by omega, by push_cast; rfl, rfl, Lib.hid (by rw [← HX.out]; exact HNL.out), Lib.hid (by rw [← HX.out]; exact HR1.out), hbel⟩
                case measure => omega
              rcases bg with _ | _
              · obtain rfl : cur = [] := by have h := HBG.out; cases cur with | nil => rfl | cons y ys => cases h
                have HR2 := Lib.hid (show RowsF wr W2.heap.size (.slice oa nl oc) LK vs by have h := HR1.out; rw [curL_nil, List.append_nil] at h; exact h)
                clear HR1 HNL
                go_upto_region 14 with (go_at_call 32; (with_reducible refine (CB.out _).mono ?_); rintro e w3 ⟨rfl, rfl⟩)
                have HO1 := Lib.hid (HR2.out.out.alloc (.cells #[.slice none 0 0] 43))
                have HRX := Lib.hid (row_new wr [.slice none 0 0] 43 1 1 rfl (by unfold maxLen; omega))
                have hbw := hbel
                go_upto_region 15 with (at_builtin; refine wpList_app_sep rfl _ _ 36 rfl W2.heap.size 43 _ 1 24 Tryz.underlying36 info_row rfl (by decide) _ LK.length _ rfl HO1.out _ 1 1 [.slice none 0 0] rfl HRX.out (fun u hu => by simp at hu; subst hu; rfl) ?c1 ?c2 ?c3 ?_)
                case c1 => simp only [maxLen]; omega
                case c2 => omega
                case c3 => have h2 := hbw.size; simp; omega
                intro v2 w5 ho5 hb5 hg5 hm5
                have HP := Lib.hid ((HR2.out.alloc (.cells #[.slice none 0 0] 43)).push ho5 hg5)
                have HB5 := (belAlloc hbw (.cells #[.slice none 0 0] 43)).trans hb5
                clear ho5 hb5 hg5 hm5 hbw hbel HO1 HRX HR2
                obtain ⟨oa, oc, ev⟩ := HP.out.shape
                subst ev
                obtain ⟨vs2, hvs2⟩ : ∃ x, vs ++ [Value.slice none 0 0] = x := ⟨_, rfl⟩
                rw [hvs2] at HP
                clear hvs2
                obtain ⟨nl, hnl⟩ : ∃ x, (LK ++ [([] : List FldV)]).length = x := ⟨_, rfl⟩
                rw [hnl] at HP ⊢
                have HNL := Lib.hid hnl
                clear hnl
                go_upto_region 16 with fail
                have hbel := HB5
                clear HB5
                generalize w5 = WA at *
                have HR1 := HP
                clear HP
                obtain ⟨cur, hcur⟩ : ∃ x : List FldV, x = [] := ⟨_, rfl⟩
                rw [← hcur] at HR1 HNL HSC hcp
                clear hcur HBG
                obtain ⟨us, uv, rfl, husl, HU⟩ := HR1.out.last
                have HUSL := Lib.hid husl
                have HUO := Lib.hid HU
                have HUN := Lib.hid (fun q hq => (World.ownsRow.lt HU q hq).2)
                clear HU husl
                obtain ⟨og, oc2, eo, hog1, hog2, hog3, hog4⟩ := HR1.out.open (by simp)
                rw [HNL.out] at eo hog3
                simp only [Value.slice.injEq] at eo
                obtain ⟨rfl, _, rfl⟩ := eo
                have HBW := Lib.hid hbel
                have hnl1 : LK.length + 1 = nl := by have := HNL.out; rw [List.length_append] at this; exact this
                have HCE := Lib.hid (fun u => lex_end (bA l) p u (by rw [bA_size]; omega) (by rw [bA_size]; omega))
                obtain ⟨e, he⟩ : ∃ e, endP l p = e := ⟨_, rfl⟩
                have hed : endP (bA l).data.toList p = e := by rw [bA_data]; exact he
                rw [hed] at HCE
                have hebd := endP_bd l (show p ≤ l.length by omega)
                rw [he] at hebd
                obtain ⟨hpe, hel⟩ := hebd
                obtain ⟨wd, hwd⟩ : ∃ x, (l.drop p).takeWhile (fun c => !blankB c) = x := ⟨_, rfl⟩
                have hext := ext_word l (show p ≤ l.length by omega)
                rw [he, hwd] at hext
                obtain ⟨wb, hwb⟩ : ∃ x, bA wd = x := ⟨_, rfl⟩
                rw [hwb] at hext
                have HSF := Lib.hid (scan_field (n := (k : Int) + 1) HLX.out HBL.out H35.out)
                rw [he, hwd] at HSF
                have HWB := Lib.hid hwb
                clear hed he hwd hwb
                have hes : (bA l).size = l.length := bA_size l
                have hp0 : (0 : Int) ≤ (p : Int) := by omega
                have hpe2 : (p : Int) ≤ (e : Int) := by omega
                have hel2 : (e : Int) ≤ (l.length : Int) := by omega
                have hpe3 : ¬ e < p := by omega
                have hel3 : ¬ l.length < e := by omega
                go_upto_region 17 with (go_at_call 33; (with_reducible refine (HCE.out _).mono ?_); rintro e2 w3 ⟨rfl, rfl⟩)
                go_upto_region 18 with fail
                have hzA := hbel.size
                have HB3 := Lib.hid (belAlloc hbel (.cells #[.string wb, .int .i64 ((k : Int) + 1), .int .i64 ((p : Int) + 1)] 45))
                have HR3 := Lib.hid (HR1.out.alloc (.cells #[.string wb, .int .i64 ((k : Int) + 1), .int .i64 ((p : Int) + 1)] 45))
                have HBK := Blk.new WA [.string wb, .int .i64 ((k : Int) + 1), .int .i64 ((p : Int) + 1)] 45
                have hzB : WA.heap.size < (WA.alloc (.cells #[.string wb, .int .i64 ((k : Int) + 1), .int .i64 ((p : Int) + 1)] 45)).heap.size := by simp
                clear hbel hp0 hpe2 hel2 hpe3 hel3 hext HR1
                generalize WA.alloc (.cells #[.string wb, .int .i64 ((k : Int) + 1), .int .i64 ((p : Int) + 1)] 45) = W4 at *
                have f0 := keep (HBK.cell (j := 0) rfl)
                have f1 := keep (HBK.cell (j := 1) rfl)
                have f2 := keep (HBK.cell (j := 2) rfl)
                clear HBK
                generalize WA.heap.size = N4 at *
                have hbel : Below W4.heap.size W4 W4 := Below.refl _ _
                have HO3 := Lib.hid (HR3.out.inn LK.length cur uv (by simp) (by rw [← HUSL.out]; simp))
                have cu := keep (show W4.cell? ⟨og, LK.length, none⟩ = some uv from by rw [World.ownsRow.cellAt (HNL.out ▸ HR3.out.out : OwnR W4 W2.heap.size 43 1 (.slice (some ⟨og, 0, none⟩) nl oc) nl (us ++ [uv])) LK.length (by omega), ← HUSL.out]; simp)
                obtain ⟨lk, hlk⟩ : ∃ x, LK.length = x := ⟨_, rfl⟩
                rw [hlk] at cu hnl1
                have HLKL := Lib.hid hlk
                clear hlk
                subst hnl1
                have u1 : IntKind.i64.wrap ((lk : Int) + 1 - 1) = (lk : Int) := by rw [show (lk : Int) + 1 - 1 = (lk : Int) by omega]; exact IntWalk.i64_in _ (by omega)
                have u2 : (lk : Int) + 1 - 1 = (lk : Int) := by omega
                have u3 : IntKind.i64.wrap (lk : Int) = (lk : Int) := IntWalk.i64_in _ (by omega)
                have hlk0 : (0 : Int) ≤ (lk : Int) := by omega
                have hlk1 : (lk : Int) < (lk : Int) + 1 := by omega
                refine wp_region_upto (S := fun u => u.cell? ⟨og, lk, none⟩ = some uv ∧ u.cell? ⟨N4, 0, none⟩ = some (.string wb) ∧ u.cell? ⟨N4, 1, none⟩ = some (.int .i64 ((k : Int) + 1)) ∧ u.cell? ⟨N4, 2, none⟩ = some (.int .i64 ((p : Int) + 1))) [14] (by kernel_rfl) (by exact ⟨cu _ (by repeat (first | exact Below.refl _ _ | refine belDrew ?_ | refine belAlloc ?_ _)), f0 _ (by repeat (first | exact Below.refl _ _ | refine belDrew ?_ | refine belAlloc ?_ _)), f1 _ (by repeat (first | exact Below.refl _ _ | refine belDrew ?_ | refine belAlloc ?_ _)), f2 _ (by repeat (first | exact Below.refl _ _ | refine belDrew ?_ | refine belAlloc ?_ _))⟩) (fun hHeld => ?_)
                refine UpTo.take (i := 0) (oi := ?oi_u1) (v := ?v_u1) ?hi_u1 (by kernel_rfl) ?hf_u1 ?hr_u1 (by kernel_rfl) ?hQ_u1 (Or.inl ⟨?hw_u1, ?hy_u1⟩) (by assumption) ?rest_u1
                case hi_u1 => ((simp only [List.getElem?_toArray, List.getElem?_cons_succ, List.getElem?_cons_zero]); rfl)
                case hf_u1 => kernel_rfl
                case hr_u1 => kernel_rfl
                case hQ_u1 => exact fun _ _ _ h => h
                case hw_u1 => rfl
                case hy_u1 => ((intro w hSw; (try dsimp only at hSw); go_simp); all_goals (with_reducible rfl))
                try simp only [Act.put, List.setIfInBounds_toArray, List.set_cons_zero, List.set_cons_succ]
                refine UpTo.take (i := 1) (oi := ?oi_u2) (v := ?v_u2) ?hi_u2 (by kernel_rfl) ?hf_u2 ?hr_u2 (by kernel_rfl) ?hQ_u2 (Or.inl ⟨?hw_u2, ?hy_u2⟩) (by assumption) ?rest_u2
                case hi_u2 => ((simp only [List.getElem?_toArray, List.getElem?_cons_succ, List.getElem?_cons_zero]); rfl)
                case hf_u2 => kernel_rfl
                case hr_u2 => kernel_rfl
                case hQ_u2 => exact fun _ _ _ h => h
                case hw_u2 => rfl
                case hy_u2 => ((intro w hSw; (try dsimp only at hSw); go_simp); all_goals (with_reducible rfl))
                try simp only [Act.put, List.setIfInBounds_toArray, List.set_cons_zero, List.set_cons_succ]
                refine UpTo.take (i := 2) (oi := ?oi_u3) (v := ?v_u3) ?hi_u3 (by kernel_rfl) ?hf_u3 ?hr_u3 (by kernel_rfl) ?hQ_u3 (Or.inl ⟨?hw_u3, ?hy_u3⟩) (by assumption) ?rest_u3
                case hi_u3 => ((simp only [List.getElem?_toArray, List.getElem?_cons_succ, List.getElem?_cons_zero]); rfl)
                case hf_u3 => kernel_rfl
                case hr_u3 => kernel_rfl
                case hQ_u3 => exact fun _ _ _ h => h
                case hw_u3 => rfl
                case hy_u3 => ((intro w hSw; (try dsimp only at hSw); go_simp); all_goals (with_reducible rfl))
                try simp only [Act.put, List.setIfInBounds_toArray, List.set_cons_zero, List.set_cons_succ]
                refine UpTo.take (i := 3) (oi := ?oi_u4) (v := ?v_u4) ?hi_u4 (by kernel_rfl) ?hf_u4 ?hr_u4 (by kernel_rfl) ?hQ_u4 (Or.inl ⟨?hw_u4, ?hy_u4⟩) (by assumption) ?rest_u4
                case hi_u4 => ((simp only [List.getElem?_toArray, List.getElem?_cons_succ, List.getElem?_cons_zero]); rfl)
                case hf_u4 => kernel_rfl
                case hr_u4 => kernel_rfl
                case hQ_u4 => exact fun _ _ _ h => h
                case hw_u4 => rfl
                case hy_u4 => ((intro w hSw; (try dsimp only at hSw); go_simp); all_goals (with_reducible rfl))
                try simp only [Act.put, List.setIfInBounds_toArray, List.set_cons_zero, List.set_cons_succ]
                refine UpTo.take (i := 4) (oi := ?oi_u5) (v := ?v_u5) ?hi_u5 (by kernel_rfl) ?hf_u5 ?hr_u5 (by kernel_rfl) ?hQ_u5 (Or.inl ⟨?hw_u5, ?hy_u5⟩) (by assumption) ?rest_u5
                case hi_u5 => ((simp only [List.getElem?_toArray, List.getElem?_cons_succ, List.getElem?_cons_zero]); rfl)
                case hf_u5 => kernel_rfl
                case hr_u5 => kernel_rfl
                case hQ_u5 => exact fun _ _ _ h => h
                case hw_u5 => rfl
                case hy_u5 => ((intro w hSw; (try dsimp only at hSw); go_simp); all_goals (with_reducible rfl))
                try simp only [Act.put, List.setIfInBounds_toArray, List.set_cons_zero, List.set_cons_succ]
                refine UpTo.take (i := 5) (oi := ?oi_u6) (v := ?v_u6) ?hi_u6 (by kernel_rfl) ?hf_u6 ?hr_u6 (by kernel_rfl) ?hQ_u6 (Or.inl ⟨?hw_u6, ?hy_u6⟩) (by assumption) ?rest_u6
                case hi_u6 => ((simp only [List.getElem?_toArray, List.getElem?_cons_succ, List.getElem?_cons_zero]); rfl)
                case hf_u6 => kernel_rfl
                case hr_u6 => kernel_rfl
                case hQ_u6 => exact fun _ _ _ h => h
                case hw_u6 => rfl
                case hy_u6 => ((intro w hSw; (try dsimp only at hSw); go_simp); all_goals (with_reducible rfl))
                try simp only [Act.put, List.setIfInBounds_toArray, List.set_cons_zero, List.set_cons_succ]
                refine UpTo.take (i := 6) (oi := ?oi_u7) (v := ?v_u7) ?hi_u7 (by kernel_rfl) ?hf_u7 ?hr_u7 (by kernel_rfl) ?hQ_u7 (Or.inl ⟨?hw_u7, ?hy_u7⟩) (by assumption) ?rest_u7
                case hi_u7 => ((simp only [List.getElem?_toArray, List.getElem?_cons_succ, List.getElem?_cons_zero]); rfl)
                case hf_u7 => kernel_rfl
                case hr_u7 => kernel_rfl
                case hQ_u7 => exact fun _ _ _ h => h
                case hw_u7 => rfl
                case hy_u7 => ((intro w hSw; (try dsimp only at hSw); go_simp); all_goals (with_reducible rfl))
                try simp only [Act.put, List.setIfInBounds_toArray, List.set_cons_zero, List.set_cons_succ]
                refine UpTo.take (i := 7) (oi := ?oi_u8) (v := ?v_u8) ?hi_u8 (by kernel_rfl) ?hf_u8 ?hr_u8 (by kernel_rfl) ?hQ_u8 (Or.inl ⟨?hw_u8, ?hy_u8⟩) (by assumption) ?rest_u8
                case hi_u8 => ((simp only [List.getElem?_toArray, List.getElem?_cons_succ, List.getElem?_cons_zero]); rfl)
                case hf_u8 => kernel_rfl
                case hr_u8 => kernel_rfl
                case hQ_u8 => exact fun _ _ _ h => h
                case hw_u8 => rfl
                case hy_u8 => ((intro w hSw; (try dsimp only at hSw); go_simp); all_goals (with_reducible rfl))
                try simp only [Act.put, List.setIfInBounds_toArray, List.set_cons_zero, List.set_cons_succ]
                refine UpTo.take (i := 8) (oi := ?oi_u9) (v := ?v_u9) ?hi_u9 (by kernel_rfl) ?hf_u9 ?hr_u9 (by kernel_rfl) ?hQ_u9 (Or.inl ⟨?hw_u9, ?hy_u9⟩) (by assumption) ?rest_u9
                case hi_u9 => ((simp only [List.getElem?_toArray, List.getElem?_cons_succ, List.getElem?_cons_zero]); rfl)
                case hf_u9 => kernel_rfl
                case hr_u9 => kernel_rfl
                case hQ_u9 => exact fun _ _ _ h => h
                case hw_u9 => rfl
                case hy_u9 => ((intro w hSw; (try dsimp only at hSw); go_simp); all_goals (with_reducible rfl))
                try simp only [Act.put, List.setIfInBounds_toArray, List.set_cons_zero, List.set_cons_succ]
                refine UpTo.take (i := 9) (oi := ?oi_u10) (v := ?v_u10) ?hi_u10 (by kernel_rfl) ?hf_u10 ?hr_u10 (by kernel_rfl) ?hQ_u10 (Or.inl ⟨?hw_u10, ?hy_u10⟩) (by assumption) ?rest_u10
                case hi_u10 => ((simp only [List.getElem?_toArray, List.getElem?_cons_succ, List.getElem?_cons_zero]); rfl)
                case hf_u10 => kernel_rfl
                case hr_u10 => kernel_rfl
                case hQ_u10 => exact fun _ _ _ h => h
                case hw_u10 => rfl
                case hy_u10 => ((intro w hSw; (try dsimp only at hSw); go_simp); all_goals (with_reducible rfl))
                try simp only [Act.put, List.setIfInBounds_toArray, List.set_cons_zero, List.set_cons_succ]
                refine UpTo.take (i := 10) (oi := ?oi_u11) (v := ?v_u11) ?hi_u11 (by kernel_rfl) ?hf_u11 ?hr_u11 (by kernel_rfl) ?hQ_u11 (Or.inl ⟨?hw_u11, ?hy_u11⟩) (by assumption) ?rest_u11
                case hi_u11 => ((simp only [List.getElem?_toArray, List.getElem?_cons_succ, List.getElem?_cons_zero]); rfl)
                case hf_u11 => kernel_rfl
                case hr_u11 => kernel_rfl
                case hQ_u11 => exact fun _ _ _ h => h
                case hw_u11 => rfl
                case hy_u11 => ((intro w hSw; (try dsimp only at hSw); go_simp); all_goals (with_reducible rfl))
                try simp only [Act.put, List.setIfInBounds_toArray, List.set_cons_zero, List.set_cons_succ]
                refine UpTo.one (i := 11) (o := ?o_u12) (by kernel_rfl) ?hi_u12 (fun K hK => ?rest_u12)
                case hi_u12 => ((simp only [List.getElem?_toArray, List.getElem?_cons_succ, List.getElem?_cons_zero]); rfl)
                go_simp
                refine hK.out _ _ (fun _ => by exact ⟨cu _ (by repeat (first | exact Below.refl _ _ | refine belDrew ?_ | refine belAlloc ?_ _)), f0 _ (by repeat (first | exact Below.refl _ _ | refine belDrew ?_ | refine belAlloc ?_ _)), f1 _ (by repeat (first | exact Below.refl _ _ | refine belDrew ?_ | refine belAlloc ?_ _)), f2 _ (by repeat (first | exact Below.refl _ _ | refine belDrew ?_ | refine belAlloc ?_ _))⟩) (fun hHeld0 => ?_)
                replace hHeld := hHeld0 (by decide)
                clear hK K hHeld0
                try simp only [Act.put, List.setIfInBounds_toArray, List.set_cons_zero, List.set_cons_succ]
                have HO4 := Lib.hid (OwnR.alloc (OwnR.later HO3.out (belDrew (Below.refl _ _))) (.cells #[.string wb, .int .i64 ((k : Int) + 1), .int .i64 ((p : Int) + 1)] 45))
                have HR4 := Lib.hid ((HR3.out.later (belDrew (Below.refl _ _))).alloc (.cells #[.string wb, .int .i64 ((k : Int) + 1), .int .i64 ((p : Int) + 1)] 45))
                have HB4 := Lib.hid (belAlloc (belDrew HB3.out) (.cells #[.string wb, .int .i64 ((k : Int) + 1), .int .i64 ((p : Int) + 1)] 45))
                have HSZ := Lib.hid (show W2.heap.size ≤ (W4.drew.alloc (.cells #[.string wb, .int .i64 ((k : Int) + 1), .int .i64 ((p : Int) + 1)] 45)).heap.size from by simp; omega)
                have HRX := Lib.hid (row_new_at W4.drew [.string wb, .int .i64 ((k : Int) + 1), .int .i64 ((p : Int) + 1)] 45 1 3 W4.heap.size (by rfl) rfl (by unfold maxLen; omega))
                refine UpTo.one (i := 12) (o := ?o_u13) (by kernel_rfl) ?hi_u13 (fun K hK => ?rest_u13)
                case hi_u13 => ((simp only [List.getElem?_toArray, List.getElem?_cons_succ, List.getElem?_cons_zero]); rfl)
                refine op_appS rfl _ _ 43 rfl (W2.heap.size) 45 _ 3 32 Tryz.underlying43 info_fld rfl (by decide) _ cur.length _ (by rfl) HO4.out (some ⟨W4.heap.size, 0, none⟩).get! 1 1 [.string wb, .int .i64 ((k : Int) + 1), .int .i64 ((p : Int) + 1)] (by rfl) HRX.out (fun u hu => by simp at hu; rcases hu with rfl | rfl | rfl <;> rfl) (by simp only [maxLen]; omega) (by omega) HSZ.out ?_
                intro v' w6 ho' hb' hg' hm'
                obtain ⟨f, hf⟩ : ∃ f : FldV, f = ⟨wd, (k : Int) + 1, (p : Int) + 1⟩ := ⟨_, rfl⟩
                have hfc : f.cells = [.string wb, .int .i64 ((k : Int) + 1), .int .i64 ((p : Int) + 1)] := by rw [hf]; unfold FldV.cells; rw [HWB.out]
                obtain ⟨va, vc, ve, hvr⟩ := rowR_of_own ho'
                subst ve
                clear hvr
                rw [← hfc] at ho'
                have HGR := Lib.hid (RowsF.grow2 HNL.out HLKL.out HR4.out HUSL.out ho' hg' hm')
                have HB6 := Lib.hid (HB4.out.trans hb')
                have hown6 : OwnR w6 W2.heap.size 43 1 (.slice (some ⟨og, 0, none⟩) (lk + 1) oc) (lk + 1) (us ++ [uv]) := by have h := OwnR.sep HR4.out.out hg' (own_type_sep HO4.out HR4.out.out (by decide)); rw [HNL.out] at h; exact h
                have qc : w6.cell? ⟨og, lk, none⟩ = some uv := by rw [World.ownsRow.cellAt hown6 lk (by omega), show lk = us.length by rw [HUSL.out, HLKL.out]]; simp
                have qf := World.ownsRow.frozenAt hown6
                have hnN : uv.ownBlock ≠ some N4 := fun q => absurd (HUN.out N4 q) (Nat.lt_irrefl _)
                have qg0 := hg'.cell (f0 _ (by repeat (first | exact Below.refl _ _ | refine belDrew ?_ | refine belAlloc ?_ _))) (fun q => hnN q.symm)
                have qg1 := hg'.cell (f1 _ (by repeat (first | exact Below.refl _ _ | refine belDrew ?_ | refine belAlloc ?_ _))) (fun q => hnN q.symm)
                have qg2 := hg'.cell (f2 _ (by repeat (first | exact Below.refl _ _ | refine belDrew ?_ | refine belAlloc ?_ _))) (fun q => hnN q.symm)
                clear ho' hb' hg' hm' hown6 HO4 HR4 HB4 HSZ HRX hHeld cu hnN
                refine hK.out _ _ (fun _ => by exact ⟨qc, qg0, qg1, qg2⟩) (fun hHeld0 => ?_)
                replace hHeld := hHeld0 (by decide)
                clear hK K hHeld0
                try simp only [Act.put, List.setIfInBounds_toArray, List.set_cons_zero, List.set_cons_succ]
                refine UpTo.take (i := 13) (oi := ?oi_u14) (v := ?v_u14) ?hi_u14 (by kernel_rfl) ?hf_u14 ?hr_u14 (by kernel_rfl) ?hQ_u14 (Or.inl ⟨?hw_u14, ?hy_u14⟩) (by assumption) ?rest_u14
                case hi_u14 => ((simp only [List.getElem?_toArray, List.getElem?_cons_succ, List.getElem?_cons_zero]); rfl)
                case hf_u14 => kernel_rfl
                case hr_u14 => kernel_rfl
                case hQ_u14 => exact fun _ _ _ h => h
                case hw_u14 => rfl
                case hy_u14 => ((intro w hSw; (try dsimp only at hSw); go_simp); all_goals (with_reducible rfl))
                try simp only [Act.put, List.setIfInBounds_toArray, List.set_cons_zero, List.set_cons_succ]
                refine UpTo.one (i := 14) (o := ?o_u15) (by kernel_rfl) ?hi_u15 (fun K hK => ?rest_u15)
                case hi_u15 => ((simp only [List.getElem?_toArray, List.getElem?_cons_succ, List.getElem?_cons_zero]); rfl)
                go_simp
                refine hK.out _ _ (fun q => absurd q (by decide)) (fun _ => ?_)
                clear hK K
                try simp only [Act.put, List.setIfInBounds_toArray, List.set_cons_zero, List.set_cons_succ]
                refine UpTo.done (by kernel_rfl) ?_ _
                clear hHeld qc qf qg0 qg1 qg2 u1 u2 u3 hlk0 hlk1 f0 f1 f2
                have HB7 := Lib.hid (belSet HB6.out ⟨og, lk, none⟩ (.slice va (cur.length + 1) vc) hog1)
                have HCN := Lib.hid (show lineF ((k : Int) + 1) l = (cur ++ [f]) ++ scan ((k : Int) + 1) (e + 1) none (l.drop (e + 1)) by rw [HSC.out, HSF.out, hf, List.append_assoc]; rfl)
                have HNE := Lib.hid (show (LK ++ curL (cur ++ [f])).length = lk + 1 by rw [curL_some]; simpa using HNL.out)
                have HGR2 := Lib.hid (show RowsF _ W2.heap.size (.slice (some ⟨og, 0, none⟩) (lk + 1) oc) (LK ++ curL (cur ++ [f])) (us ++ [Value.slice va (cur.length + 1) vc]) by rw [curL_some]; exact HGR.out)
                have HEB := Lib.hid (show (!(cur ++ [f]).isEmpty) = true by simp)
                go_wp2
                go_roundg g2
                case rel => exact ⟨e + 1, cur ++ [f], us ++ [Value.slice va (cur.length + 1) vc], some ⟨og, 0, none⟩, oc, lk + 1, true, by omega, by omega, by rw [List.length_append]; show cur.length + 1 ≤ e + 1; omega, by push_cast; rfl, rfl, HEB, HCN, rfl, HNE, HGR2, HB7.out⟩
                case measure => omega
              · have hcc : curL cur = [cur] := by have h := HBG.out; cases cur with | nil => cases h | cons y ys => rfl
                rw [hcc] at HR1 HNL
                clear hcc HBG
                go_upto_region 16 with (go_at_call 32; (with_reducible refine (CB.out _).mono ?_); rintro e w3 ⟨rfl, rfl⟩)
                generalize wr = WA at *
                obtain ⟨us, uv, rfl, husl, HU⟩ := HR1.out.last
                have HUSL := Lib.hid husl
                have HUO := Lib.hid HU
                have HUN := Lib.hid (fun q hq => (World.ownsRow.lt HU q hq).2)
                clear HU husl
                obtain ⟨og, oc2, eo, hog1, hog2, hog3, hog4⟩ := HR1.out.open (by simp)
                rw [HNL.out] at eo hog3
                simp only [Value.slice.injEq] at eo
                obtain ⟨rfl, _, rfl⟩ := eo
                have HBW := Lib.hid hbel
                have hnl1 : LK.length + 1 = nl := by have := HNL.out; rw [List.length_append] at this; exact this
                have HCE := Lib.hid (fun u => lex_end (bA l) p u (by rw [bA_size]; omega) (by rw [bA_size]; omega))
                obtain ⟨e, he⟩ : ∃ e, endP l p = e := ⟨_, rfl⟩
                have hed : endP (bA l).data.toList p = e := by rw [bA_data]; exact he
                rw [hed] at HCE
                have hebd := endP_bd l (show p ≤ l.length by omega)
                rw [he] at hebd
                obtain ⟨hpe, hel⟩ := hebd
                obtain ⟨wd, hwd⟩ : ∃ x, (l.drop p).takeWhile (fun c => !blankB c) = x := ⟨_, rfl⟩
                have hext := ext_word l (show p ≤ l.length by omega)
                rw [he, hwd] at hext
                obtain ⟨wb, hwb⟩ : ∃ x, bA wd = x := ⟨_, rfl⟩
                rw [hwb] at hext
                have HSF := Lib.hid (scan_field (n := (k : Int) + 1) HLX.out HBL.out H35.out)
                rw [he, hwd] at HSF
                have HWB := Lib.hid hwb
                clear hed he hwd hwb
                have hes : (bA l).size = l.length := bA_size l
                have hp0 : (0 : Int) ≤ (p : Int) := by omega
                have hpe2 : (p : Int) ≤ (e : Int) := by omega
                have hel2 : (e : Int) ≤ (l.length : Int) := by omega
                have hpe3 : ¬ e < p := by omega
                have hel3 : ¬ l.length < e := by omega
                go_upto_region 17 with (go_at_call 33; (with_reducible refine (HCE.out _).mono ?_); rintro e2 w3 ⟨rfl, rfl⟩)
                go_upto_region 18 with fail
                have hzA := hbel.size
                have HB3 := Lib.hid (belAlloc hbel (.cells #[.string wb, .int .i64 ((k : Int) + 1), .int .i64 ((p : Int) + 1)] 45))
                have HR3 := Lib.hid (HR1.out.alloc (.cells #[.string wb, .int .i64 ((k : Int) + 1), .int .i64 ((p : Int) + 1)] 45))
                have HBK := Blk.new WA [.string wb, .int .i64 ((k : Int) + 1), .int .i64 ((p : Int) + 1)] 45
                have hzB : WA.heap.size < (WA.alloc (.cells #[.string wb, .int .i64 ((k : Int) + 1), .int .i64 ((p : Int) + 1)] 45)).heap.size := by simp
                clear hbel hp0 hpe2 hel2 hpe3 hel3 hext HR1
                generalize WA.alloc (.cells #[.string wb, .int .i64 ((k : Int) + 1), .int .i64 ((p : Int) + 1)] 45) = W4 at *
                have f0 := keep (HBK.cell (j := 0) rfl)
                have f1 := keep (HBK.cell (j := 1) rfl)
                have f2 := keep (HBK.cell (j := 2) rfl)
                clear HBK
                generalize WA.heap.size = N4 at *
                have hbel : Below W4.heap.size W4 W4 := Below.refl _ _
                have HO3 := Lib.hid (HR3.out.inn LK.length cur uv (by simp) (by rw [← HUSL.out]; simp))
                have cu := keep (show W4.cell? ⟨og, LK.length, none⟩ = some uv from by rw [World.ownsRow.cellAt (HNL.out ▸ HR3.out.out : OwnR W4 W2.heap.size 43 1 (.slice (some ⟨og, 0, none⟩) nl oc) nl (us ++ [uv])) LK.length (by omega), ← HUSL.out]; simp)
                obtain ⟨lk, hlk⟩ : ∃ x, LK.length = x := ⟨_, rfl⟩
                rw [hlk] at cu hnl1
                have HLKL := Lib.hid hlk
                clear hlk
                subst hnl1
                have u1 : IntKind.i64.wrap ((lk : Int) + 1 - 1) = (lk : Int) := by rw [show (lk : Int) + 1 - 1 = (lk : Int) by omega]; exact IntWalk.i64_in _ (by omega)
                have u2 : (lk : Int) + 1 - 1 = (lk : Int) := by omega
                have u3 : IntKind.i64.wrap (lk : Int) = (lk : Int) := IntWalk.i64_in _ (by omega)
                have hlk0 : (0 : Int) ≤ (lk : Int) := by omega
                have hlk1 : (lk : Int) < (lk : Int) + 1 := by omega
                refine wp_region_upto (S := fun u => u.cell? ⟨og, lk, none⟩ = some uv ∧ u.cell? ⟨N4, 0, none⟩ = some (.string wb) ∧ u.cell? ⟨N4, 1, none⟩ = some (.int .i64 ((k : Int) + 1)) ∧ u.cell? ⟨N4, 2, none⟩ = some (.int .i64 ((p : Int) + 1))) [14] (by kernel_rfl) (by exact ⟨cu _ (by repeat (first | exact Below.refl _ _ | refine belDrew ?_ | refine belAlloc ?_ _)), f0 _ (by repeat (first | exact Below.refl _ _ | refine belDrew ?_ | refine belAlloc ?_ _)), f1 _ (by repeat (first | exact Below.refl _ _ | refine belDrew ?_ | refine belAlloc ?_ _)), f2 _ (by repeat (first | exact Below.refl _ _ | refine belDrew ?_ | refine belAlloc ?_ _))⟩) (fun hHeld => ?_)
                refine UpTo.take (i := 0) (oi := ?oi_u16) (v := ?v_u16) ?hi_u16 (by kernel_rfl) ?hf_u16 ?hr_u16 (by kernel_rfl) ?hQ_u16 (Or.inl ⟨?hw_u16, ?hy_u16⟩) (by assumption) ?rest_u16
                case hi_u16 => ((simp only [List.getElem?_toArray, List.getElem?_cons_succ, List.getElem?_cons_zero]); rfl)
                case hf_u16 => kernel_rfl
                case hr_u16 => kernel_rfl
                case hQ_u16 => exact fun _ _ _ h => h
                case hw_u16 => rfl
                case hy_u16 => ((intro w hSw; (try dsimp only at hSw); go_simp); all_goals (with_reducible rfl))
                try simp only [Act.put, List.setIfInBounds_toArray, List.set_cons_zero, List.set_cons_succ]
                refine UpTo.take (i := 1) (oi := ?oi_u17) (v := ?v_u17) ?hi_u17 (by kernel_rfl) ?hf_u17 ?hr_u17 (by kernel_rfl) ?hQ_u17 (Or.inl ⟨?hw_u17, ?hy_u17⟩) (by assumption) ?rest_u17
                case hi_u17 => ((simp only [List.getElem?_toArray, List.getElem?_cons_succ, List.getElem?_cons_zero]); rfl)
                case hf_u17 => kernel_rfl
                case hr_u17 => kernel_rfl
                case hQ_u17 => exact fun _ _ _ h => h
                case hw_u17 => rfl
                case hy_u17 => ((intro w hSw; (try dsimp only at hSw); go_simp); all_goals (with_reducible rfl))
                try simp only [Act.put, List.setIfInBounds_toArray, List.set_cons_zero, List.set_cons_succ]
                refine UpTo.take (i := 2) (oi := ?oi_u18) (v := ?v_u18) ?hi_u18 (by kernel_rfl) ?hf_u18 ?hr_u18 (by kernel_rfl) ?hQ_u18 (Or.inl ⟨?hw_u18, ?hy_u18⟩) (by assumption) ?rest_u18
                case hi_u18 => ((simp only [List.getElem?_toArray, List.getElem?_cons_succ, List.getElem?_cons_zero]); rfl)
                case hf_u18 => kernel_rfl
                case hr_u18 => kernel_rfl
                case hQ_u18 => exact fun _ _ _ h => h
                case hw_u18 => rfl
                case hy_u18 => ((intro w hSw; (try dsimp only at hSw); go_simp); all_goals (with_reducible rfl))
                try simp only [Act.put, List.setIfInBounds_toArray, List.set_cons_zero, List.set_cons_succ]
                refine UpTo.take (i := 3) (oi := ?oi_u19) (v := ?v_u19) ?hi_u19 (by kernel_rfl) ?hf_u19 ?hr_u19 (by kernel_rfl) ?hQ_u19 (Or.inl ⟨?hw_u19, ?hy_u19⟩) (by assumption) ?rest_u19
                case hi_u19 => ((simp only [List.getElem?_toArray, List.getElem?_cons_succ, List.getElem?_cons_zero]); rfl)
                case hf_u19 => kernel_rfl
                case hr_u19 => kernel_rfl
                case hQ_u19 => exact fun _ _ _ h => h
                case hw_u19 => rfl
                case hy_u19 => ((intro w hSw; (try dsimp only at hSw); go_simp); all_goals (with_reducible rfl))
                try simp only [Act.put, List.setIfInBounds_toArray, List.set_cons_zero, List.set_cons_succ]
                refine UpTo.take (i := 4) (oi := ?oi_u20) (v := ?v_u20) ?hi_u20 (by kernel_rfl) ?hf_u20 ?hr_u20 (by kernel_rfl) ?hQ_u20 (Or.inl ⟨?hw_u20, ?hy_u20⟩) (by assumption) ?rest_u20
                case hi_u20 => ((simp only [List.getElem?_toArray, List.getElem?_cons_succ, List.getElem?_cons_zero]); rfl)
                case hf_u20 => kernel_rfl
                case hr_u20 => kernel_rfl
                case hQ_u20 => exact fun _ _ _ h => h
                case hw_u20 => rfl
                case hy_u20 => ((intro w hSw; (try dsimp only at hSw); go_simp); all_goals (with_reducible rfl))
                try simp only [Act.put, List.setIfInBounds_toArray, List.set_cons_zero, List.set_cons_succ]
                refine UpTo.take (i := 5) (oi := ?oi_u21) (v := ?v_u21) ?hi_u21 (by kernel_rfl) ?hf_u21 ?hr_u21 (by kernel_rfl) ?hQ_u21 (Or.inl ⟨?hw_u21, ?hy_u21⟩) (by assumption) ?rest_u21
                case hi_u21 => ((simp only [List.getElem?_toArray, List.getElem?_cons_succ, List.getElem?_cons_zero]); rfl)
                case hf_u21 => kernel_rfl
                case hr_u21 => kernel_rfl
                case hQ_u21 => exact fun _ _ _ h => h
                case hw_u21 => rfl
                case hy_u21 => ((intro w hSw; (try dsimp only at hSw); go_simp); all_goals (with_reducible rfl))
                try simp only [Act.put, List.setIfInBounds_toArray, List.set_cons_zero, List.set_cons_succ]
                refine UpTo.take (i := 6) (oi := ?oi_u22) (v := ?v_u22) ?hi_u22 (by kernel_rfl) ?hf_u22 ?hr_u22 (by kernel_rfl) ?hQ_u22 (Or.inl ⟨?hw_u22, ?hy_u22⟩) (by assumption) ?rest_u22
                case hi_u22 => ((simp only [List.getElem?_toArray, List.getElem?_cons_succ, List.getElem?_cons_zero]); rfl)
                case hf_u22 => kernel_rfl
                case hr_u22 => kernel_rfl
                case hQ_u22 => exact fun _ _ _ h => h
                case hw_u22 => rfl
                case hy_u22 => ((intro w hSw; (try dsimp only at hSw); go_simp); all_goals (with_reducible rfl))
                try simp only [Act.put, List.setIfInBounds_toArray, List.set_cons_zero, List.set_cons_succ]
                refine UpTo.take (i := 7) (oi := ?oi_u23) (v := ?v_u23) ?hi_u23 (by kernel_rfl) ?hf_u23 ?hr_u23 (by kernel_rfl) ?hQ_u23 (Or.inl ⟨?hw_u23, ?hy_u23⟩) (by assumption) ?rest_u23
                case hi_u23 => ((simp only [List.getElem?_toArray, List.getElem?_cons_succ, List.getElem?_cons_zero]); rfl)
                case hf_u23 => kernel_rfl
                case hr_u23 => kernel_rfl
                case hQ_u23 => exact fun _ _ _ h => h
                case hw_u23 => rfl
                case hy_u23 => ((intro w hSw; (try dsimp only at hSw); go_simp); all_goals (with_reducible rfl))
                try simp only [Act.put, List.setIfInBounds_toArray, List.set_cons_zero, List.set_cons_succ]
                refine UpTo.take (i := 8) (oi := ?oi_u24) (v := ?v_u24) ?hi_u24 (by kernel_rfl) ?hf_u24 ?hr_u24 (by kernel_rfl) ?hQ_u24 (Or.inl ⟨?hw_u24, ?hy_u24⟩) (by assumption) ?rest_u24
                case hi_u24 => ((simp only [List.getElem?_toArray, List.getElem?_cons_succ, List.getElem?_cons_zero]); rfl)
                case hf_u24 => kernel_rfl
                case hr_u24 => kernel_rfl
                case hQ_u24 => exact fun _ _ _ h => h
                case hw_u24 => rfl
                case hy_u24 => ((intro w hSw; (try dsimp only at hSw); go_simp); all_goals (with_reducible rfl))
                try simp only [Act.put, List.setIfInBounds_toArray, List.set_cons_zero, List.set_cons_succ]
                refine UpTo.take (i := 9) (oi := ?oi_u25) (v := ?v_u25) ?hi_u25 (by kernel_rfl) ?hf_u25 ?hr_u25 (by kernel_rfl) ?hQ_u25 (Or.inl ⟨?hw_u25, ?hy_u25⟩) (by assumption) ?rest_u25
                case hi_u25 => ((simp only [List.getElem?_toArray, List.getElem?_cons_succ, List.getElem?_cons_zero]); rfl)
                case hf_u25 => kernel_rfl
                case hr_u25 => kernel_rfl
                case hQ_u25 => exact fun _ _ _ h => h
                case hw_u25 => rfl
                case hy_u25 => ((intro w hSw; (try dsimp only at hSw); go_simp); all_goals (with_reducible rfl))
                try simp only [Act.put, List.setIfInBounds_toArray, List.set_cons_zero, List.set_cons_succ]
                refine UpTo.take (i := 10) (oi := ?oi_u26) (v := ?v_u26) ?hi_u26 (by kernel_rfl) ?hf_u26 ?hr_u26 (by kernel_rfl) ?hQ_u26 (Or.inl ⟨?hw_u26, ?hy_u26⟩) (by assumption) ?rest_u26
                case hi_u26 => ((simp only [List.getElem?_toArray, List.getElem?_cons_succ, List.getElem?_cons_zero]); rfl)
                case hf_u26 => kernel_rfl
                case hr_u26 => kernel_rfl
                case hQ_u26 => exact fun _ _ _ h => h
                case hw_u26 => rfl
                case hy_u26 => ((intro w hSw; (try dsimp only at hSw); go_simp); all_goals (with_reducible rfl))
                try simp only [Act.put, List.setIfInBounds_toArray, List.set_cons_zero, List.set_cons_succ]
                refine UpTo.one (i := 11) (o := ?o_u27) (by kernel_rfl) ?hi_u27 (fun K hK => ?rest_u27)
                case hi_u27 => ((simp only [List.getElem?_toArray, List.getElem?_cons_succ, List.getElem?_cons_zero]); rfl)
                go_simp
                refine hK.out _ _ (fun _ => by exact ⟨cu _ (by repeat (first | exact Below.refl _ _ | refine belDrew ?_ | refine belAlloc ?_ _)), f0 _ (by repeat (first | exact Below.refl _ _ | refine belDrew ?_ | refine belAlloc ?_ _)), f1 _ (by repeat (first | exact Below.refl _ _ | refine belDrew ?_ | refine belAlloc ?_ _)), f2 _ (by repeat (first | exact Below.refl _ _ | refine belDrew ?_ | refine belAlloc ?_ _))⟩) (fun hHeld0 => ?_)
                replace hHeld := hHeld0 (by decide)
                clear hK K hHeld0
                try simp only [Act.put, List.setIfInBounds_toArray, List.set_cons_zero, List.set_cons_succ]
                have HO4 := Lib.hid (OwnR.alloc (OwnR.later HO3.out (belDrew (Below.refl _ _))) (.cells #[.string wb, .int .i64 ((k : Int) + 1), .int .i64 ((p : Int) + 1)] 45))
                have HR4 := Lib.hid ((HR3.out.later (belDrew (Below.refl _ _))).alloc (.cells #[.string wb, .int .i64 ((k : Int) + 1), .int .i64 ((p : Int) + 1)] 45))
                have HB4 := Lib.hid (belAlloc (belDrew HB3.out) (.cells #[.string wb, .int .i64 ((k : Int) + 1), .int .i64 ((p : Int) + 1)] 45))
                have HSZ := Lib.hid (show W2.heap.size ≤ (W4.drew.alloc (.cells #[.string wb, .int .i64 ((k : Int) + 1), .int .i64 ((p : Int) + 1)] 45)).heap.size from by simp; omega)
                have HRX := Lib.hid (row_new_at W4.drew [.string wb, .int .i64 ((k : Int) + 1), .int .i64 ((p : Int) + 1)] 45 1 3 W4.heap.size (by rfl) rfl (by unfold maxLen; omega))
                refine UpTo.one (i := 12) (o := ?o_u28) (by kernel_rfl) ?hi_u28 (fun K hK => ?rest_u28)
                case hi_u28 => ((simp only [List.getElem?_toArray, List.getElem?_cons_succ, List.getElem?_cons_zero]); rfl)
                refine op_appS rfl _ _ 43 rfl (W2.heap.size) 45 _ 3 32 Tryz.underlying43 info_fld rfl (by decide) _ cur.length _ (by rfl) HO4.out (some ⟨W4.heap.size, 0, none⟩).get! 1 1 [.string wb, .int .i64 ((k : Int) + 1), .int .i64 ((p : Int) + 1)] (by rfl) HRX.out (fun u hu => by simp at hu; rcases hu with rfl | rfl | rfl <;> rfl) (by simp only [maxLen]; omega) (by omega) HSZ.out ?_
                intro v' w6 ho' hb' hg' hm'
                obtain ⟨f, hf⟩ : ∃ f : FldV, f = ⟨wd, (k : Int) + 1, (p : Int) + 1⟩ := ⟨_, rfl⟩
                have hfc : f.cells = [.string wb, .int .i64 ((k : Int) + 1), .int .i64 ((p : Int) + 1)] := by rw [hf]; unfold FldV.cells; rw [HWB.out]
                obtain ⟨va, vc, ve, hvr⟩ := rowR_of_own ho'
                subst ve
                clear hvr
                rw [← hfc] at ho'
                have HGR := Lib.hid (RowsF.grow2 HNL.out HLKL.out HR4.out HUSL.out ho' hg' hm')
                have HB6 := Lib.hid (HB4.out.trans hb')
                have hown6 : OwnR w6 W2.heap.size 43 1 (.slice (some ⟨og, 0, none⟩) (lk + 1) oc) (lk + 1) (us ++ [uv]) := by have h := OwnR.sep HR4.out.out hg' (own_type_sep HO4.out HR4.out.out (by decide)); rw [HNL.out] at h; exact h
                have qc : w6.cell? ⟨og, lk, none⟩ = some uv := by rw [World.ownsRow.cellAt hown6 lk (by omega), show lk = us.length by rw [HUSL.out, HLKL.out]]; simp
                have qf := World.ownsRow.frozenAt hown6
                have hnN : uv.ownBlock ≠ some N4 := fun q => absurd (HUN.out N4 q) (Nat.lt_irrefl _)
                have qg0 := hg'.cell (f0 _ (by repeat (first | exact Below.refl _ _ | refine belDrew ?_ | refine belAlloc ?_ _))) (fun q => hnN q.symm)
                have qg1 := hg'.cell (f1 _ (by repeat (first | exact Below.refl _ _ | refine belDrew ?_ | refine belAlloc ?_ _))) (fun q => hnN q.symm)
                have qg2 := hg'.cell (f2 _ (by repeat (first | exact Below.refl _ _ | refine belDrew ?_ | refine belAlloc ?_ _))) (fun q => hnN q.symm)
                clear ho' hb' hg' hm' hown6 HO4 HR4 HB4 HSZ HRX hHeld cu hnN
                refine hK.out _ _ (fun _ => by exact ⟨qc, qg0, qg1, qg2⟩) (fun hHeld0 => ?_)
                replace hHeld := hHeld0 (by decide)
                clear hK K hHeld0
                try simp only [Act.put, List.setIfInBounds_toArray, List.set_cons_zero, List.set_cons_succ]
                refine UpTo.take (i := 13) (oi := ?oi_u29) (v := ?v_u29) ?hi_u29 (by kernel_rfl) ?hf_u29 ?hr_u29 (by kernel_rfl) ?hQ_u29 (Or.inl ⟨?hw_u29, ?hy_u29⟩) (by assumption) ?rest_u29
                case hi_u29 => ((simp only [List.getElem?_toArray, List.getElem?_cons_succ, List.getElem?_cons_zero]); rfl)
                case hf_u29 => kernel_rfl
                case hr_u29 => kernel_rfl
                case hQ_u29 => exact fun _ _ _ h => h
                case hw_u29 => rfl
                case hy_u29 => ((intro w hSw; (try dsimp only at hSw); go_simp); all_goals (with_reducible rfl))
                try simp only [Act.put, List.setIfInBounds_toArray, List.set_cons_zero, List.set_cons_succ]
                refine UpTo.one (i := 14) (o := ?o_u30) (by kernel_rfl) ?hi_u30 (fun K hK => ?rest_u30)
                case hi_u30 => ((simp only [List.getElem?_toArray, List.getElem?_cons_succ, List.getElem?_cons_zero]); rfl)
                go_simp
                refine hK.out _ _ (fun q => absurd q (by decide)) (fun _ => ?_)
                clear hK K
                try simp only [Act.put, List.setIfInBounds_toArray, List.set_cons_zero, List.set_cons_succ]
                refine UpTo.done (by kernel_rfl) ?_ _
                clear hHeld qc qf qg0 qg1 qg2 u1 u2 u3 hlk0 hlk1 f0 f1 f2
                have HB7 := Lib.hid (belSet HB6.out ⟨og, lk, none⟩ (.slice va (cur.length + 1) vc) hog1)
                have HCN := Lib.hid (show lineF ((k : Int) + 1) l = (cur ++ [f]) ++ scan ((k : Int) + 1) (e + 1) none (l.drop (e + 1)) by rw [HSC.out, HSF.out, hf, List.append_assoc]; rfl)
                have HNE := Lib.hid (show (LK ++ curL (cur ++ [f])).length = lk + 1 by rw [curL_some]; simpa using HNL.out)
                have HGR2 := Lib.hid (show RowsF _ W2.heap.size (.slice (some ⟨og, 0, none⟩) (lk + 1) oc) (LK ++ curL (cur ++ [f])) (us ++ [Value.slice va (cur.length + 1) vc]) by rw [curL_some]; exact HGR.out)
                have HEB := Lib.hid (show (!(cur ++ [f]).isEmpty) = true by simp)
                go_wp2
                go_roundg g2
                case rel => exact ⟨e + 1, cur ++ [f], us ++ [Value.slice va (cur.length + 1) vc], some ⟨og, 0, none⟩, oc, lk + 1, true, by omega, by omega, by rw [List.length_append]; show cur.length + 1 ≤ e + 1; omega, by push_cast; rfl, rfl, HEB, HCN, rfl, HNE, HGR2, HB7.out⟩
                case measure => omega
          · have hdp : decide ((p : Int) < (l.length : Int)) = false := decide_eq_false (by omega)
            have hpi : ¬ (p : Int) < (l.length : Int) := by omega
            have HX := Lib.hid (show LK ++ curL cur = allF 1 (R.take (k + 1)) by rw [HAN.out]; congr 1; exact rows_exit HSC.out (scan_end (by omega)))
            go_wp2
            go_roundg g
            case rel => exact ⟨k + 1, vs, oa, oc, nl, by omega, by push_cast; rfl, rfl, Lib.hid (by rw [← HX.out]; exact HNL.out), Lib.hid (by rw [← HX.out]; exact HR1.out), hbel⟩
            case measure => omega
end Go.Proofs.YtcaenbobfneejaaGreatDoor
