
/- LexPlaces holds for every slice of bytes. -/
import Derived.Test.YtlgmgmnhmagolaaDoorLexPlcM
import Derived.Test.YtlgmgmnhmagolaaDoorLexHold
import Derived.Test.YtlgmgmnhmagolaaDoorLexCard
import Derived.Deep.LoopGhost
namespace Go.Proofs.YtlgmgmnhmagolaaDoor.lexPlaces
open Go.ChangeShapes Go.WideShapes Go.ChangeAt Go.RowKit
open Go.ChangeMaps (open_string shut_string)
set_option linter.unusedVariables false
set_option linter.unusedSimpArgs false
theorem fields_len (L : List UInt8) : (fieldsF L).length ≤ L.length + 1 := Nat.le_trans (allF_len 1 (linesL L)) (lines_le L).1
set_option maxRecDepth 100000 in
set_option maxHeartbeats 16000000 in
theorem walk (a : Option Addr) (la ca : Nat) (l1 : List Int) (w : World) (ht : Env w) (h1 : Ints .u8 w a la ca l1) :
    Calls Tryd.prog 4 #[.slice a la ca] w fun e w' => e = .returned (.bool true) ∧ Below w.heap.size w w' := by
  have hw := Below.refl w.heap.size w
  have hbel := hw
  have hb1 := h1.bounds
  obtain ⟨A, rfl, lA⟩ := nums_of_bytes h1
  obtain ⟨m, hm⟩ := ht
  have HM := Lib.hid (keep hm)
  have HA := Lib.hid h1
  have LA := Lib.hid lA
  obtain ⟨_, hb11, hb12⟩ := hb1
  clear h1 hm lA
  by_cases hA : 5000 < la
  · go_enter Tryd.func4, Tryd.ntmps4
    go_wp2_with (first | (go_at_call 9; (with_reducible refine (awake04 _ m (HM.out _ hbel)).mono ?_); rintro e w1 ⟨rfl, hb1⟩; replace hbel := belStep hbel hb1; clear hb1))
    go_ret
    exact ⟨rfl, hbel⟩
  have hnA : ¬ (5000 : Int) < (la : Int) := by omega
  clear hw
  rcases qa : readB A with _ | _
  · have RA := Lib.hid qa
    clear qa
    go_enter Tryd.func4, Tryd.ntmps4
    go_upto_region 3 with (first | (go_at_call 9; (with_reducible refine (awake04 _ m (HM.out _ hbel)).mono ?_); rintro e w1 ⟨rfl, hb1⟩; replace hbel := belStep hbel hb1; clear hb1))
    go_wp2_with (go_at_call 10; (with_reducible refine (lines_no _ _ _ A m _ (HA.out.later hbel) (HM.out _ hbel) RA.out).mono ?_); rintro e wl ⟨rfl, hbl⟩; replace hbel := belStep hbel hbl; clear hbl)
    go_ret
    exact ⟨rfl, hbel⟩
  · have RA := Lib.hid qa
    have RF := Lib.hid (rows_fields qa)
    have hfl := fields_len A
    rw [LA.out] at hfl
    clear qa
    go_enter Tryd.func4, Tryd.ntmps4
    go_upto_region 3 with (first | (go_at_call 9; (with_reducible refine (awake04 _ m (HM.out _ hbel)).mono ?_); rintro e w1 ⟨rfl, hb1⟩; replace hbel := belStep hbel hb1; clear hb1))
    go_upto_region 4 with (go_at_call 10; (with_reducible refine (lines_of _ _ _ A m _ (HA.out.later hbel) (HM.out _ hbel) RA.out).mono ?_); rintro e wl ⟨⟨bl, bn, vl, rfl, hrl⟩, hbl⟩; have HR := Lib.hid hrl; replace hbel := belStep hbel hbl; clear hbl hrl)
    have HBL := Lib.hid hbel
    have HAL := Lib.hid (HA.out.later hbel)
    obtain ⟨nl, hnl⟩ : ∃ x, (fieldsF A).length = x := ⟨_, rfl⟩
    rw [hnl] at hfl ⊢
    have HNL := Lib.hid hnl
    clear hnl hbel
    have hb0 := Below.refl wl.heap.size wl
    go_wp2
    go_loopg [5, 6, 7, 8] nl (fun g nv bv av iv wr => ∃ (i ln bg : Nat), i + g = nl ∧ iv = .int .i64 i ∧ nv = .int .i64 ((ln : Int) + 1) ∧ bv = .int .i64 bg ∧ av = .int .i64 bg ∧ bg ≤ la ∧ ln ≤ la ∧ Hid (BegAt A ln bg bg) ∧ Hid (RowsAt (linesL A) ln ((fieldsF A).drop i)) ∧ Below wl.heap.size wl wr)
    case atStart => exact ⟨0, 0, 0, by omega, rfl, rfl, rfl, rfl, by omega, by omega, Lib.hid (beg_zero A), RF, hb0⟩
    case round =>
      obtain ⟨i, ln, bg, hig, rfl, rfl, rfl, rfl, hbgl, hlnl, HB, HRW, hbw⟩ := hrel
      clear hb0
      have HB5 := Lib.hid hbw
      clear hbw
      cases gk with
      | zero =>
        obtain rfl : i = nl := by omega
        have hd : decide ((i : Int) < (i : Int)) = false := decide_eq_false (by omega)
        go_wp2
        go_ret
        exact ⟨rfl, belStep HBL.out HB5.out⟩
      | succ g =>
        have hin : i < nl := by omega
        have hd : decide ((i : Int) < (nl : Int)) = true := decide_eq_true (by omega)
        have hii : (i : Int) < (nl : Int) := by omega
        have hi0 : (0 : Int) ≤ (i : Int) := by omega
        obtain ⟨F, hF⟩ : ∃ F, (fieldsF A)[i]? = some F := ⟨(fieldsF A)[i]'(by rw [HNL.out]; exact hin), List.getElem?_eq_getElem _⟩
        have hdr : (fieldsF A).drop i = F :: (fieldsF A).drop (i + 1) := by obtain ⟨h1, rfl⟩ := List.getElem?_eq_some_iff.1 hF; exact List.drop_eq_getElem_cons h1
        have hrw := HRW.out
        rw [hdr] at hrw
        obtain ⟨lk, LL, hlk, hLL, hFne, hFA, hRT⟩ := hrw
        have HLL := Lib.hid hLL
        have HRT := Lib.hid hRT
        have HFA := Lib.hid hFA
        have hlkl : lk ≤ la := by obtain ⟨h1, _⟩ := List.getElem?_eq_some_iff.1 hLL; have h2 := (lines_le A).1; rw [LA.out] at h2; omega
        have hLLl : LL.length ≤ la := by have h2 := (lines_le A).2 LL (List.mem_of_getElem? hLL); rw [LA.out] at h2; exact h2
        clear hdr hLL hRT hFA HRW
        obtain ⟨lg, lc, ea, _, _, _, _⟩ := HR.out.open (by rw [HNL.out]; omega)
        obtain rfl : bl = some ⟨lg, 0, none⟩ := by simpa using (Value.slice.inj ea).1
        clear ea
        obtain ⟨ra, rn, hrl, hol⟩ := rows_at (HR.out.later HB5.out) hF
        have HOL := Lib.hid hol
        obtain ⟨nf, hnf⟩ : ∃ x, F.length = x := ⟨_, rfl⟩
        have hFl : nf ≤ 9223372036854775807 := by rcases own_shape hol with ⟨_, e⟩ | ⟨g, c, e, h1, h2, h3, h4⟩ <;> omega
        rw [hnf] at hrl
        have HNF := Lib.hid hnf
        have hf0 : 0 < nf := by rw [← hnf]; exact List.length_pos_iff.2 hFne
        have hf1 : ((nf : Int) == 0) = false := by simp; omega
        have hf2 : ¬ (nf : Int) = 0 := by omega
        have x0 := keep hrl
        clear hF hol hrl hnf hFne
        have hbel : Below wr.heap.size wr wr := Below.refl _ _
        go_wp2
        clear hbel
        generalize wr = W5 at *
        have hb0 := Below.refl W5.heap.size W5
        go_loopg [5, 6, 7, 9, 10] nf (fun g2 nv bv av ev kv wr => ∃ (k l2 bg2 e : Nat), k + g2 = nf ∧ kv = .int .i64 k ∧ nv = .int .i64 ((l2 : Int) + 1) ∧ bv = .int .i64 bg2 ∧ av = .int .i64 bg2 ∧ ev = .int .i64 e ∧ bg2 ≤ la ∧ l2 ≤ lk ∧ e ≤ la + 1 ∧ Hid (k = nf → l2 = lk) ∧ Hid (BegAt A l2 bg2 bg2) ∧ Hid (FldsAt LL ((lk : Int) + 1) e (F.drop k)) ∧ Below W5.heap.size W5 wr)
        case atStart => exact ⟨0, ln, bg, 0, by omega, rfl, rfl, rfl, rfl, rfl, hbgl, hlk, by omega, Lib.hid (fun h => by omega), HB, HFA, hb0⟩
        case round =>
          obtain ⟨k, l2, bg2, e, hkg, rfl, rfl, rfl, rfl, rfl, hbg2, hl2, hel, HKE, HB2, HFD, hbw⟩ := hrel
          clear hb0
          have HB7 := Lib.hid hbw
          have x := keepOn x0 hbw
          clear hbw
          cases gk with
          | zero =>
            obtain rfl : k = nf := by omega
            obtain rfl : l2 = lk := HKE.out rfl
            have hdk : decide ((k : Int) < (k : Int)) = false := decide_eq_false (by omega)
            have hbel : Below wr.heap.size wr wr := Below.refl _ _
            go_wp2
            go_roundg g
            case rel => exact ⟨i + 1, l2, bg2, by omega, by push_cast; rfl, rfl, rfl, rfl, hbg2, hlkl, HB2, HRT, belStep HB5.out HB7.out⟩
            case measure => omega
          | succ g2 =>
            have hkn : k < nf := by omega
            have hdk : decide ((k : Int) < (nf : Int)) = true := decide_eq_true (by omega)
            have hki : (k : Int) < (nf : Int) := by omega
            have hk0 : (0 : Int) ≤ (k : Int) := by omega
            obtain ⟨f, hf⟩ : ∃ f, F[k]? = some f := ⟨F[k]'(by rw [HNF.out]; exact hkn), List.getElem?_eq_getElem _⟩
            have hdr : F.drop k = f :: F.drop (k + 1) := by obtain ⟨h1, rfl⟩ := List.getElem?_eq_some_iff.1 hf; exact List.drop_eq_getElem_cons h1
            have hfd := HFD.out
            rw [hdr] at hfd
            obtain ⟨q, hfn, hfc, heq, hql, htk, hwo, hrest⟩ := hfd
            clear hdr HFD
            obtain ⟨fg, ef, _, _, _, f0, f1, f2⟩ := fld_at HOL.out hf
            subst ef
            rw [hfn] at f1
            rw [hfc] at f2
            obtain ⟨tx, htx⟩ : ∃ s, bA f.text = s := ⟨_, rfl⟩
            have hts : f.text.length = tx.size := by rw [← htx, bA_size]
            have htl : tx.data.toList = f.text := by rw [← htx]; exact bA_data f.text
            rw [htx] at f0
            rw [hts] at hql htk hrest
            have HWO := Lib.hid (htl ▸ hwo : wordOk tx.data.toList)
            have HTK := Lib.hid (htl ▸ htk : (LL.drop q).take tx.size = tx.data.toList)
            have HRE := Lib.hid hrest
            clear hfn hfc hf htk hwo hrest hts htl htx
            have htp : 0 < tx.size := by obtain ⟨c, r, e, _⟩ := word_first HWO.out; rw [← size_list, e]; simp
            have c0 := keepOn (keep f0) HB7.out
            have c1 := keepOn (keep f1) HB7.out
            have c2 := keepOn (keep f2) HB7.out
            clear f0 f1 f2 f
            have hbel : Below wr.heap.size wr wr := Below.refl _ _
            have hw := HB7.out
            go_wp2
            have ff0 : (wr.alloc (.cells #[.string tx, .int .i64 ((lk:Int) + 1), .int .i64 ((q:Int) + 1)] 33)).cell? ⟨wr.heap.size, 0, none⟩ = some (.string tx) := by first | (simp; done) | (rw [World.cell?_alloc_at _ _ _ _ (by simp)]; rfl) | (rw [World.cell?_alloc_past _ _ _ (by simp <;> omega), World.cell?_alloc_at _ _ _ _ (by simp)]; rfl) | (rw [World.cell?_alloc_past _ _ _ (by simp <;> omega), World.cell?_alloc_past _ _ _ (by simp <;> omega), World.cell?_alloc_at _ _ _ _ (by simp)]; rfl)
            have ff1 : (wr.alloc (.cells #[.string tx, .int .i64 ((lk:Int) + 1), .int .i64 ((q:Int) + 1)] 33)).cell? ⟨wr.heap.size, 1, none⟩ = some (.int .i64 ((lk:Int) + 1)) := by first | (simp; done) | (rw [World.cell?_alloc_at _ _ _ _ (by simp)]; rfl) | (rw [World.cell?_alloc_past _ _ _ (by simp <;> omega), World.cell?_alloc_at _ _ _ _ (by simp)]; rfl) | (rw [World.cell?_alloc_past _ _ _ (by simp <;> omega), World.cell?_alloc_past _ _ _ (by simp <;> omega), World.cell?_alloc_at _ _ _ _ (by simp)]; rfl)
            have ff2 : (wr.alloc (.cells #[.string tx, .int .i64 ((lk:Int) + 1), .int .i64 ((q:Int) + 1)] 33)).cell? ⟨wr.heap.size, 2, none⟩ = some (.int .i64 ((q:Int) + 1)) := by first | (simp; done) | (rw [World.cell?_alloc_at _ _ _ _ (by simp)]; rfl) | (rw [World.cell?_alloc_past _ _ _ (by simp <;> omega), World.cell?_alloc_at _ _ _ _ (by simp)]; rfl) | (rw [World.cell?_alloc_past _ _ _ (by simp <;> omega), World.cell?_alloc_past _ _ _ (by simp <;> omega), World.cell?_alloc_at _ _ _ _ (by simp)]; rfl)
            have hb2 := (by repeat (first | exact hbel | refine belAlloc ?_ _ | refine belDrew ?_ | refine belSet ?_ _ _ (by simp)) : Below wr.heap.size wr (wr.alloc (.cells #[.string tx, .int .i64 ((lk:Int) + 1), .int .i64 ((q:Int) + 1)] 33)))
            replace hw := belStep hw hb2
            clear hb2 hbel
            generalize wr.alloc (.cells #[.string tx, .int .i64 ((lk:Int) + 1), .int .i64 ((q:Int) + 1)] 33) = W8 at *
            replace ff0 := keep ff0
            replace ff1 := keep ff1
            replace ff2 := keep ff2
            generalize wr.heap.size = PF at *
            have hbel : Below W8.heap.size W8 W8 := Below.refl _ _
            skip
            have HW8 := Lib.hid hw
            clear hw c0 c1 c2 x HB7 hbel
            go_loopg [5, 6, 7] (la + 1) (fun g3 nv bv av wr => ∃ (l3 bg3 at3 : Nat), la + 1 ≤ at3 + g3 ∧ nv = .int .i64 ((l3 : Int) + 1) ∧ bv = .int .i64 bg3 ∧ av = .int .i64 at3 ∧ l3 ≤ lk ∧ bg3 ≤ la ∧ at3 ≤ la ∧ Hid (l3 = lk → at3 = bg3) ∧ Hid (BegAt A l3 bg3 at3) ∧ W8 = wr)
            case atStart => exact ⟨l2, bg2, bg2, by omega, rfl, rfl, rfl, hl2, hbg2, hbg2, Lib.hid (fun _ => rfl), HB2, rfl⟩
            case round =>
              obtain ⟨l3, bg3, at3, hg3, rfl, rfl, rfl, hl3, hbg3, hat3, HE3, HB3, rfl⟩ := hrel
              have hbel : Below W8.heap.size W8 W8 := Below.refl _ _
              have HBA := Lib.hid (belStep HB5.out HW8.out)
              rcases Nat.lt_or_ge l3 lk with hlt | hge
              · have hd3 : decide (((l3 : Int) + 1) < ((lk : Int) + 1)) = true := decide_eq_true (by omega)
                have hd3b : ((l3 : Int) + 1) < ((lk : Int) + 1) := by omega
                have hd3c : decide ((l3 : Int) < (lk : Int)) = true := decide_eq_true (by omega)
                have hd3d : (l3 : Int) < (lk : Int) := by omega
                by_cases hal : at3 < la
                · have hda : decide ((at3 : Int) < (la : Int)) = true := decide_eq_true (by omega)
                  have hdb : (at3 : Int) < (la : Int) := by omega
                  have hdc : (0 : Int) ≤ (at3 : Int) := by omega
                  obtain ⟨Ab, Ao, eA, _, hcA⟩ := (HAL.out.later HBA.out).opened (show 0 < la by omega)
                  subst eA
                  obtain ⟨c, hc⟩ : ∃ c, A[at3]? = some c := ⟨A[at3]'(by rw [LA.out]; omega), List.getElem?_eq_getElem (by rw [LA.out]; omega)⟩
                  have cc : W8.cell? ⟨Ab, Ao + at3, none⟩ = some (.int .u8 (c.toNat : Int)) := by rw [hcA at3 (by omega)]; simp [numsL, el, List.getD, hc]
                  clear hcA
                  have HC := Lib.hid hc
                  clear hc
                  have hw1 : IntKind.i64.wrap ((at3 : Int) + 1) = ((at3 + 1 : Nat) : Int) := by push_cast; exact IntWalk.i64_in _ (by omega)
                  have hw2 : IntKind.i64.wrap (((l3 : Int) + 1) + 1) = ((l3 + 1 : Nat) : Int) + 1 := by push_cast; exact IntWalk.i64_in _ (by omega)
                  by_cases h10 : c = 10
                  · subst h10
                    rw [show ((10 : UInt8).toNat : Int) = 10 from rfl] at cc
                    go_wp2
                    obtain ⟨gq, rfl⟩ : ∃ gq, gk = gq + 1 := ⟨gk - 1, by omega⟩
                    go_roundg gq
                    case rel => exact ⟨l3 + 1, at3 + 1, at3 + 1, by omega, rfl, rfl, rfl, by omega, by omega, by omega, Lib.hid (fun _ => rfl), Lib.hid (beg_next HB3.out HC.out), rfl⟩
                    case measure => omega
                  · have hne10 : (c == 10) = false := by simpa using h10
                    have hnn : ¬ (c.toNat : Int) = 10 := fun h => by have k := byte_eq c 10; rw [show ((10 : UInt8).toNat : Int) = 10 from rfl, hne10] at k; simp at k; exact k h
                    have hn10 : ((c.toNat : Int) == 10) = false := by simpa using hnn
                    go_wp2
                    obtain ⟨gq, rfl⟩ : ∃ gq, gk = gq + 1 := ⟨gk - 1, by omega⟩
                    go_roundg gq
                    case rel => exact ⟨l3, bg3, at3 + 1, by omega, rfl, rfl, rfl, by omega, by omega, by omega, Lib.hid (fun h => absurd h (by omega)), Lib.hid (beg_skip HB3.out (by rw [LA.out]; exact hal) (by rw [HC.out]; intro h; exact h10 (by simpa using h))), rfl⟩
                    case measure => omega
                · exact absurd (beg_end HB3.out (by rw [LA.out]; exact hal) HLL.out hl3) (by omega)
              · obtain rfl : l3 = lk := by omega
                obtain rfl : at3 = bg3 := HE3.out rfl
                have hd3 : decide (((l3 : Int) + 1) < ((l3 : Int) + 1)) = false := decide_eq_false (by omega)
                obtain ⟨ht1, ht2⟩ := fld_there (t := tx.data.toList) HB3.out HLL.out (by rw [size_list]; exact hql) (by rw [size_list]; exact HTK.out)
                rw [size_list] at ht1 ht2
                rw [LA.out] at ht1
                obtain ⟨fr, hfr⟩ : ∃ n, at3 + q = n := ⟨_, rfl⟩
                rw [hfr] at ht1 ht2
                obtain ⟨en, hen⟩ : ∃ n, fr + tx.size = n := ⟨_, rfl⟩
                rw [hen] at ht1
                obtain ⟨Ab, Ao, eA, _, _⟩ := HAL.out.opened (show 0 < la by omega)
                subst eA
                have hcv0 := fun (w : World) (hb : Below W8.heap.size W8 w) => conv_sub (HAL.out.later (belStep HBA.out hb)) (show fr ≤ en by omega) (show en ≤ la by omega)
                rw [show (A.drop fr).take (en - fr) = tx.data.toList by rw [← hen, Nat.add_sub_cancel_left]; exact ht2, show bA tx.data.toList = tx from rfl] at hcv0
                have HCV := Lib.hid hcv0
                have hw1 : IntKind.i64.wrap ((at3 : Int) + ((q : Int) + 1)) = (fr : Int) + 1 := by rw [show (at3 : Int) + ((q : Int) + 1) = (fr : Int) + 1 by omega]; exact IntWalk.i64_in _ (by omega)
                have hw2 : IntKind.i64.wrap (fr : Int) = (fr : Int) := IntWalk.i64_in _ (by omega)
                have hw3 : IntKind.i64.wrap ((fr : Int) + (tx.size : Int)) = (en : Int) := by rw [show (fr : Int) + (tx.size : Int) = (en : Int) by omega]; exact IntWalk.i64_in _ (by omega)
                have hw4 : IntKind.i64.wrap (((q : Int) + 1) + (tx.size : Int)) = ((q + 1 + tx.size : Nat) : Int) := by push_cast; exact IntWalk.i64_in _ (by omega)
                have ht3 := Lib.hid ht2
                clear ht2 hcv0
                go_wp2
                have hx1 : decide ((q : Int) + 1 ≤ (e : Int)) = false := decide_eq_false (by omega)
                have hx2 : ¬ (q : Int) + 1 ≤ (e : Int) := by omega
                have hx3 : ((tx.size : Int) == 0) = false := by rw [beq_eq_false_iff_ne]; omega
                have hx4 : ¬ (tx.size : Int) = 0 := by omega
                have hx5 : decide ((la : Int) < (en : Int)) = false := decide_eq_false (by omega)
                have hx6 : ¬ (la : Int) < (en : Int) := by omega
                have hx7 : (fr : Int) ≤ (en : Int) := by omega
                have hx8 : (en : Int) ≤ (ca : Int) := by omega
                have hx9 : (0 : Int) ≤ (fr : Int) := by omega
                have hx10 : ¬ ca = fr := by omega
                have hy1 : ((tx[0]'htp).toNat : Int) ≠ 35 := by obtain ⟨c, r, e, hn⟩ := word_first HWO.out; have h := at_list tx htp; rw [e] at h; simp only [List.getElem?_cons_zero, Option.some.injEq] at h; rw [← h]; exact hn
                have hy2 : (((tx[0]'htp).toNat : Int) == 35) = false := by simpa using hy1
                have hcv := HCV.out
                have kk := fun d os => belStep hbel (below_regrown _ d os)
                refine wp_region_quiet_below (by kernel_rfl) (by kernel_rfl) ?_
                repeat ((with_reducible refine wpQuiet_step (fun K hK => ?_)); go_simp; (try (rw [if_neg]; rotate_left; · decide)); first | ((with_reducible refine hK _ ?_); clear hK K) | (apply Exists.intro; refine ⟨fun _ => ?_, hK _ ?_⟩; (fail); clear hK K))
                refine wpQuiet_nil (fun w1 hw1 => ?_)
                replace hbel := belStep hbel (bel_of_class hw1)
                clear hw1 kk
                clear hcv
                go_wp2
                have gg0 := keepOn ff0 hbel
                have gg2 := keepOn ff2 hbel
                have HW9 := Lib.hid (belStep HW8.out hbel)
                clear ff0 ff1 ff2 hbel
                generalize w1 = W9 at *
                go_loopg [13] tx.size (fun g4 jv wr => ∃ j : Nat, j + g4 = tx.size ∧ jv = .int .i64 j ∧ W9 = wr)
                case atStart => exact ⟨0, by omega, rfl, rfl⟩
                case round =>
                  obtain ⟨j, hj4, rfl, rfl⟩ := hrel
                  have hbel : Below W9.heap.size W9 W9 := Below.refl _ _
                  cases gk with
                  | zero =>
                    obtain rfl : j = tx.size := by omega
                    have hdj : decide ((tx.size : Int) < (tx.size : Int)) = false := decide_eq_false (by omega)
                    go_wp2
                    go_roundg g2
                    case rel => exact ⟨k + 1, l3, at3, q + 1 + tx.size, by omega, by push_cast; rfl, rfl, rfl, rfl, rfl, hbg3, Nat.le_refl _, by omega, Lib.hid (fun _ => rfl), HB3, Lib.hid (by have := HRE.out; rw [show q + tx.size + 1 = q + 1 + tx.size by omega] at this; exact this), HW9.out⟩
                    case measure => omega
                  | succ g4 =>
                    have hjt : j < tx.size := by omega
                    have hdj : decide ((j : Int) < (tx.size : Int)) = true := decide_eq_true (by omega)
                    have hjn : (j : Int) < (tx.size : Int) := by omega
                    have hj0 : (0 : Int) ≤ (j : Int) := by omega
                    have hb1 := word_bytes HWO.out j _ (at_list tx hjt)
                    have hb2 : decide (((tx[j]'hjt).toNat : Int) ≤ 32) = false := decide_eq_false (by omega)
                    have hb3 : ¬ ((tx[j]'hjt).toNat : Int) ≤ 32 := by omega
                    clear hb1
                    go_wp2
                    go_roundg g4
                    case rel => exact ⟨j + 1, by omega, by push_cast; rfl, rfl⟩
                    case measure => omega

set_option maxRecDepth 100000 in
set_option maxRecDepth 100000 in
theorem lifted (os : Os) (started : os.Started) (H : Type) (enc : TypeId × Value → H) :
    ReturnsInHanded {} Tryd.checked os 4 .any (fun w args => (Rows.lexPlacesSpec.pre enc Tryd.prog Tryd.f4 [] false w args ∧ laidMetH Tryd.prog Rows.lexPlacesRow.laid w) ∧ sizedMet enc Tryd.prog Tryd.f4 (OpenSpec.ofChange Rows.lexPlacesSpec) false w args) (Rows.lexPlacesSpec.post enc Tryd.prog Tryd.f4 false true false false) := by
  refine returnsInHanded_of_change_and_shaped (C := Tryd.checked) (X := fun w _ => laidMetH Tryd.prog Rows.lexPlacesRow.laid w) (fun _ _ _ hh h => h.of_heap hh) own started (by kernel_rfl) Tryd.func4
    (ChangeSpec.witness_shaped (enc := enc) (C := Tryd.checked) (os := os) (X := fun w _ => laidMetH Tryd.prog Rows.lexPlacesRow.laid w) false (World.laidAll Tryd.prog os Rows.lexPlacesRow.laid) #[.slice none 0 0] 8 (World.laidAll_os _ _ _) (World.shaped_of_ZipB (by kernel_rfl) (by kernel_rfl)) (by kernel_rfl) (by kernel_rfl) (by kernel_rfl) (by rw [MakeChecks.laidMetH_plain _ _ _ (by kernel_rfl)]; exact laidMet_laidAll _ (by kernel_rfl) (by kernel_rfl))) ?_
  intro W base args ds gs before hval0 hW hL hsh
  rw [MakeChecks.laidMetH_plain _ _ _ (by kernel_rfl)] at hL
  have ht : Env W := env_of hL hsh
  clear hL
  have hval : ∀ (j : Nat) t v, Tryd.f4.params[j]? = some t → args[j]? = some v → Value.okWide Tryd.prog W .any base t v := hval0
  have hW' := hW
  obtain ⟨p, q, hA0, hV, rfl, hfz, hnd⟩ := hW
  have hA : DataW.TrodAll enc Tryd.prog W 0 (fun _ => true) true Tryd.f4.params.toList args.toList ds p := hA0
  rw [Tryd.params4] at hA hval
  obtain ⟨v0, vs0, d0, ds0, p0, q0, hargs, rfl, rfl, h0, r0⟩ := trodAll_cons hA
  obtain ⟨rfl, rfl, rfl⟩ := trodAll_nil r0
  obtain rfl : args = #[v0] := by cases args; simp_all
  obtain ⟨rfl, rfl⟩ := trodVars_none hV
  have k0 := h0
  have lt0 : ∀ x ∈ p0, x.block < W.heap.size := by obtain ⟨m, hm⟩ := k0; exact DataW.trod_lt m _ _ _ hm
  have o0 : Value.okWide Tryd.prog W .any base 22 v0 := hval 0 22 v0 rfl rfl
  obtain ⟨a0, len0, cap0, rfl⟩ := okWide_slice Tryd.underlying22 o0
  obtain ⟨z0, w0⟩ : ∃ zs, Ints .u8 W a0 len0 cap0 zs := ints_of_trod Tryd.underlying22 Tryd.underlying5 (by kernel_rfl) h0
  clear hA0 hval0
  refine (walk a0 len0 cap0 z0 W ht w0).mono fun e W' ⟨he, bel⟩ => ?_
  subst he
  exact ⟨_, rfl, _, _, _, [], _, [], hW', trodAll_mk1 (shut_bool Tryd.underlying4 _), (trodAll_cons_mk (Below.trod laidOut (by kernel_rfl) (of_decide_eq_true (by kernel_rfl)) k0 bel lt0) trodAll_mk0), rfl, bel.frame _, fun h => by cases h⟩

theorem over : Rows.lexPlacesRow.holds Tryd.pinned (OpenSpec.ofChange Rows.lexPlacesSpec) :=
  OpenClaim.holds_of_wide 4 Tryd.f4 rfl rfl rfl rfl rfl rfl rfl ⟨rfl, rfl, rfl, rfl, rfl⟩ rfl rfl rfl rfl rfl (by kernel_rfl) Tryd.func4 (by kernel_rfl)
    (of_decide_eq_true (by kernel_rfl)) (by unfold Func.isWrapper; first | (rw [if_pos (by decide +kernel)]; kernel_rfl) | (rw [if_neg (by decide +kernel)]; exact ⟨rfl, rfl⟩))
    (fun os started H enc _ => lifted os started H enc)

/-- The statement. -/
theorem proved : Rows.LexPlacesCardSaid :=
  Claim7.holds_tied_plain_at .later [] Rows.lexPlacesCard.laidKinds true Rows.lexPlacesCard.stood.harness false
    over (fun _ h => by cases h) (by kernel_rfl) (fun _ h => by cases h) lexPlaces_row_tie rfl ⟨rfl, rfl⟩ (by kernel_rfl) rfl
    (fun f fn hf hfn => by
      obtain rfl : f = 4 := Option.some.inj ((show Tryd.prog.funcNamed Rows.lexPlacesRow.func = some 4 by kernel_rfl).symm.trans hf) |>.symm
      obtain rfl : fn = Tryd.f4 := (Option.some.inj (Tryd.func4.symm.trans hfn)).symm
      exact ⟨by kernel_rfl, fun j t ht => by
        rw [Tryd.params4] at ht
        have hm : t ∈ [22] := by simpa using Array.mem_of_getElem? ht
        have hall : ([22].all fun u => !Tryd.prog.wantsStandIn u) = true := by kernel_rfl
        exact (show Tryd.prog.wantsStandIn t = false by simpa using List.all_eq_true.1 hall t hm)⟩)
    (by kernel_rfl)
#print axioms proved

end Go.Proofs.YtlgmgmnhmagolaaDoor.lexPlaces
