
/- bilgeref04.Lines: contract. -/
import Derived.Test.YtgmgeefipkfdcaaDoorLexHold
import Derived.Deep.LoopGhost
namespace Go.Proofs.YtgmgeefipkfdcaaDoor
open Go.RowKit
set_option linter.unusedVariables false
set_option linter.unusedSimpArgs false
theorem word_in {L wd : List UInt8} {i : Nat} (h : (L.drop i).takeWhile (fun x => decide (32 < x.toNat)) = wd) : ∀ j, i ≤ j → j < i + wd.length → ∃ c, L[j]? = some c ∧ 32 < c.toNat := fun j h1 h2 => by
  have hL : L.drop i = wd ++ (L.drop i).dropWhile (fun x => decide (32 < x.toNat)) := by rw [← h]; exact List.takeWhile_append_dropWhile.symm
  have hj : (L.drop i)[j - i]? = L[j]? := by rw [List.getElem?_drop, Nat.add_sub_cancel' h1]
  rw [hL, List.getElem?_append_left (by omega)] at hj
  have hk : j - i < wd.length := by omega
  refine ⟨wd[j - i], by rw [← hj, List.getElem?_eq_getElem hk], ?_⟩
  have hm : wd[j - i] ∈ (L.drop i).takeWhile (fun x => decide (32 < x.toNat)) := by rw [h]; exact List.getElem_mem hk
  have := List.all_eq_true.1 (List.all_takeWhile (p := fun x : UInt8 => decide (32 < x.toNat)) (l := L.drop i)) _ hm
  simpa using this
theorem word_out {L wd : List UInt8} {i : Nat} (h : (L.drop i).takeWhile (fun x => decide (32 < x.toNat)) = wd) : i + wd.length < L.length → ∃ c, L[i + wd.length]? = some c ∧ ¬ 32 < c.toNat := fun h1 => by
  have hL : L.drop i = wd ++ (L.drop i).dropWhile (fun x => decide (32 < x.toNat)) := by rw [← h]; exact List.takeWhile_append_dropWhile.symm
  have hj : (L.drop i)[wd.length]? = L[i + wd.length]? := by rw [List.getElem?_drop]
  rw [hL, List.getElem?_append_right (Nat.le_refl _), Nat.sub_self] at hj
  have hn := List.head?_dropWhile_not (fun x : UInt8 => decide (32 < x.toNat)) (L.drop i)
  cases hM : (L.drop i).dropWhile (fun x => decide (32 < x.toNat)) with
  | nil => rw [hM] at hj; rw [List.getElem?_eq_getElem h1] at hj; simp at hj
  | cons c r =>
    rw [hM] at hj hn
    exact ⟨c, by rw [← hj]; rfl, by simpa using hn⟩
set_option maxRecDepth 100000 in
set_option maxHeartbeats 16000000 in
theorem rlex_Lines (a : Option Addr) (len cap : Nat) (L : List UInt8) (w : World) (hI : Ints .u8 w a len cap (numsL L)) (hr : readB L = true) :
    Calls Tryd.prog 13 #[.slice a len cap] w fun e w' => (∃ b n vs, e = .returned (.slice b (fieldsF L).length n) ∧ RowsF w' w.heap.size (.slice b (fieldsF L).length n) (fieldsF L) vs) ∧ Below w.heap.size w w' := by
  have HI := Lib.hid hI
  have hbd := hI.bounds
  obtain ⟨hb1, hb2, hb3⟩ := hbd
  have hll : L.length = len := by simpa [numsL] using hb1
  clear hb1
  subst hll
  have HOK := Lib.hid (read_all hr)
  have hL : L.length ≤ 65536 := by unfold readB at hr; simp only [Bool.and_eq_true, decide_eq_true_eq] at hr; exact hr.2
  have hw : Below w.heap.size w w := Below.refl _ _
  clear hI hr
  have HS := Lib.hid (rest_start L)
  go_enter Tryd.func13, Tryd.ntmps13
  go_wp2
  go_loopg [3, 4, 5, 6, 7, 8] (2 * (L.length + 1) + 1) (fun g ov nv lv bv rv iv wr => ∃ (i bg : Nat) (n : Int) (rem : Bool) (now : List FldV) (out : List (List FldV)) (vs : List Value) (oa na : Option Addr) (ol oc nl nc : Nat), 2 * (L.length + 1 - i) + (if rem then 0 else 1) ≤ g ∧ i ≤ L.length + 1 ∧ bg ≤ i ∧ 0 ≤ n ∧ n ≤ (i : Int) + 1 ∧ nl ≤ i ∧ ol ≤ i ∧ ov = .slice oa ol oc ∧ nv = .slice na nl nc ∧ lv = .int .i64 n ∧ bv = .int .i64 bg ∧ rv = .bool rem ∧ iv = .int .i64 i ∧ Hid (out.length = ol) ∧ Hid (now.length = nl) ∧ Hid (i ≤ L.length → out ++ restF n (i - bg) rem now (L.drop i) = fieldsF L) ∧ Hid (i = L.length + 1 → out = fieldsF L) ∧ Hid (Hold wr w.heap.size (.slice oa ol oc) out vs (.slice na nl nc) now) ∧ Below w.heap.size w wr)
  case atStart => exact ⟨0, 0, 1, false, [], [], [], none, none, 0, 0, 0, 0, by simp, by omega, Nat.le_refl _, by omega, by omega, Nat.le_refl _, Nat.le_refl _, rfl, rfl, rfl, rfl, rfl, rfl, Lib.hid rfl, Lib.hid rfl, Lib.hid (fun _ => HS.out), Lib.hid (fun h => absurd h (by omega)), Lib.hid ⟨RowsF.nil _ _, OwnR.nil _ _ _ _, fun x hx => by cases hx⟩, hw⟩
  case round =>
    obtain ⟨i, bg, n, rem, now, out, vs, oa, na, ol, oc, nl, nc, hg, hi, hbg, hn0, hn1, hnl, hol, rfl, rfl, rfl, rfl, rfl, rfl, HOL, HNL, HF, HE, HH, hbel⟩ := hrel
    clear hw
    rcases Nat.lt_trichotomy i L.length with hlt | heq | hgt
    · have hd : decide ((i : Int) ≤ (L.length : Int)) = true := decide_eq_true (by omega)
      have hd2 : ((i : Int) == (L.length : Int)) = false := by simp; omega
      have hd3 : ¬ (i : Int) = (L.length : Int) := by omega
      have hile : (i : Int) ≤ (L.length : Int) := by omega
      have hil : (i : Int) < (L.length : Int) := by omega
      have hi0 : (0 : Int) ≤ (i : Int) := by omega
      obtain ⟨b, off, rfl, _, hcell⟩ := HI.out.opened (by omega)
      obtain ⟨c, hc⟩ : ∃ c, L[i] = c := ⟨_, rfl⟩
      have HDR := Lib.hid (show L.drop i = c :: L.drop (i + 1) by rw [List.drop_eq_getElem_cons hlt, hc])
      have HCC := Lib.hid (HOK.out c (hc ▸ List.getElem_mem hlt))
      have hx := (HI.out.later hbel).opened (by omega)
      obtain ⟨b2, off2, eb, _, hcell2⟩ := hx
      obtain ⟨rfl, rfl⟩ : b = b2 ∧ off = off2 := by simpa using eb
      clear eb
      have cc : wr.cell? ⟨b, off + i, none⟩ = some (.int .u8 (c.toNat : Int)) := by rw [hcell2 i hlt]; simp [numsL, el, List.getD, List.getElem?_eq_getElem hlt, hc]
      have HCELL := Lib.hid (fun (k : Nat) (x : UInt8) (h : L[k]? = some x) => (show wr.cell? ⟨b, off + k, none⟩ = some (.int .u8 (x.toNat : Int)) from by obtain ⟨hk, rfl⟩ := List.getElem?_eq_some_iff.1 h; rw [hcell2 k hk]; simp [numsL, el, List.getD, List.getElem?_eq_getElem hk]))
      clear hcell hcell2 hc
      by_cases h10 : c = 10
      · subst h10
        rw [show ((10 : UInt8).toNat : Int) = 10 from rfl] at cc
        have HF2 := Lib.hid (show out ++ (curL now ++ restF (n + 1) 0 false [] (L.drop (i + 1))) = fieldsF L by have h := HF.out (by omega); rw [HDR.out, rest_line] at h; exact h)
        by_cases hn0 : nl = 0
        · obtain rfl : now = [] := List.eq_nil_of_length_eq_zero (by rw [HNL.out]; exact hn0)
          subst hn0
          go_wp2
          go_roundg (2 * (L.length + 1 - (i + 1)) + 1)
          case rel => exact ⟨i + 1, i + 1, n + 1, false, [], out, vs, oa, none, ol, oc, 0, 0, by simp, by omega, Nat.le_refl _, by omega, by push_cast; omega, by omega, by omega, rfl, rfl, rfl, by push_cast; rfl, rfl, by push_cast; rfl, HOL, Lib.hid rfl, Lib.hid (fun _ => by have h := HF2.out; rw [curL_nil, List.nil_append] at h; rw [Nat.sub_self]; exact h), Lib.hid (fun h => absurd h (by omega)), Lib.hid HH.out.fresh, hbel⟩
          case measure => omega
        · have hnp : (0 : Int) < (nl : Int) := by omega
          have hnd : decide ((0 : Int) < (nl : Int)) = true := decide_eq_true hnp
          have HC := Lib.hid (show curL now = [now] by unfold curL; cases now with | nil => have := HNL.out; simp at this; omega | cons y ys => rfl)
          have hbo := HOL.out
          have HA := Lib.hid (HH.out.alloc (.cells #[.slice na nl nc] 31))
          have HBA := Lib.hid (belAlloc hbel (.cells #[.slice na nl nc] 31))
          have HRX := Lib.hid (show Row (wr.alloc (.cells #[.slice na nl nc] 31)) (some ⟨wr.heap.size, 0, none⟩) 1 1 1 [.slice na nl nc] from row_of_blkN (n := 1) (k := 1) (Blk.new wr [.slice na nl nc] 31) rfl (by decide))
          have HO := Lib.hid (show OwnR (wr.alloc (.cells #[.slice na nl nc] 31)) w.heap.size 31 1 (.slice oa ol oc) ol vs from HOL.out ▸ HA.out.rows.out)
          go_wp2_with (at_builtin; refine wpList_app_sep rfl _ _ 24 rfl w.heap.size 31 _ 1 24 Tryd.underlying24 info_row rfl (by decide) _ ol _ rfl HO.out _ 1 1 [.slice na nl nc] rfl HRX.out (fun u hu => by simp at hu; subst hu; rfl) ?c1 ?c2 ?c3 ?_)
          case c1 => simp only [maxLen]; omega
          case c2 => omega
          case c3 => first | exact HBA.out.size | (have := hbel.size; omega)
          intro v2 w2 ho2 hb2 hg2 _
          have HP := Lib.hid (HA.out.push (by rw [HOL.out]; exact ho2) hg2)
          obtain ⟨oa2, oc2, e2, _⟩ := rowR_of_own ho2
          subst e2
          have HB2 := Lib.hid (HBA.out.trans hb2)
          have HOL2 := Lib.hid (show (out ++ [now]).length = ol + 1 by rw [List.length_append, HOL.out]; rfl)
          clear ho2 hb2 hg2
          go_wp2
          go_roundg (2 * (L.length + 1 - (i + 1)) + 1)
          case rel => exact ⟨i + 1, i + 1, n + 1, false, [], out ++ [now], vs ++ [.slice na nl nc], oa2, none, ol + 1, oc2, 0, 0, by simp, by omega, Nat.le_refl _, by omega, by push_cast; omega, by omega, by omega, rfl, rfl, rfl, by push_cast; rfl, rfl, by push_cast; rfl, HOL2, Lib.hid rfl, Lib.hid (fun _ => by have h := HF2.out; rw [HC.out, ← List.append_assoc] at h; rw [Nat.sub_self]; exact h), Lib.hid (fun h => absurd h (by omega)), HP, HB2.out⟩
          case measure => omega
      · have hne10 : (c == 10) = false := by simpa using h10
        have hnn : ¬ (c.toNat : Int) = 10 := fun h => by have k := byte_eq c 10; rw [show ((10 : UInt8).toNat : Int) = 10 from rfl, hne10] at k; simp at k; exact k h
        have hn10 : ((c.toNat : Int) == 10) = false := by simpa using hnn
        cases rem with
        | true =>
          go_wp2
          go_roundg (2 * (L.length + 1 - (i + 1)) + 0)
          case rel => exact ⟨i + 1, bg, n, true, now, out, vs, oa, na, ol, oc, nl, nc, by simp, by omega, by omega, by omega, by push_cast; omega, by omega, by omega, rfl, rfl, rfl, rfl, rfl, by push_cast; rfl, HOL, HNL, Lib.hid (fun _ => by have h := HF.out (by omega); rw [HDR.out, rest_skip n (i - bg) now _ hne10] at h; rw [show i + 1 - bg = i - bg + 1 by omega]; exact h), Lib.hid (fun h => absurd h (by omega)), HH, hbel⟩
          case measure => simp at hg <;> omega
        | false =>
          obtain ⟨q, hq⟩ : ∃ q, (c.toNat : Int) = q := ⟨_, rfl⟩
          have hq0 : 0 ≤ q := by omega
          cases hb : blankB c with
          | true =>
            have HST := Lib.hid (show i + 1 ≤ L.length → out ++ restF n (i + 1 - bg) false now (L.drop (i + 1)) = fieldsF L from fun _ => by have h := HF.out (by omega); rw [HDR.out, rest_blank n (i - bg) now _ hne10 hb] at h; rw [show i + 1 - bg = i - bg + 1 by omega]; exact h)
            have h3 : q = 9 ∨ q = 13 ∨ q = 32 := by unfold blankB at hb; simp only [Bool.or_eq_true, beq_iff_eq] at hb; rw [← hq]; rcases hb with rfl | rfl | rfl <;> simp
            rw [hq] at cc hnn hn10
            clear hq
            rcases h3 with rfl | rfl | rfl
            · go_wp2
              go_roundg (2 * (L.length + 1 - (i + 1)) + 1)
              case rel => exact ⟨i + 1, bg, n, false, now, out, vs, oa, na, ol, oc, nl, nc, by simp, by omega, by omega, by omega, by push_cast; omega, by omega, by omega, rfl, rfl, rfl, rfl, rfl, by push_cast; rfl, HOL, HNL, Lib.hid (fun _ => by exact HST.out (by omega)), Lib.hid (fun h => absurd h (by omega)), HH, hbel⟩
              case measure => simp at hg <;> omega
            · go_wp2
              go_roundg (2 * (L.length + 1 - (i + 1)) + 1)
              case rel => exact ⟨i + 1, bg, n, false, now, out, vs, oa, na, ol, oc, nl, nc, by simp, by omega, by omega, by omega, by push_cast; omega, by omega, by omega, rfl, rfl, rfl, rfl, rfl, by push_cast; rfl, HOL, HNL, Lib.hid (fun _ => by exact HST.out (by omega)), Lib.hid (fun h => absurd h (by omega)), HH, hbel⟩
              case measure => simp at hg <;> omega
            · go_wp2
              go_roundg (2 * (L.length + 1 - (i + 1)) + 1)
              case rel => exact ⟨i + 1, bg, n, false, now, out, vs, oa, na, ol, oc, nl, nc, by simp, by omega, by omega, by omega, by push_cast; omega, by omega, by omega, rfl, rfl, rfl, rfl, rfl, by push_cast; rfl, HOL, HNL, Lib.hid (fun _ => by exact HST.out (by omega)), Lib.hid (fun h => absurd h (by omega)), HH, hbel⟩
              case measure => simp at hg <;> omega
          | false =>
            have hbq : q ≠ 9 ∧ q ≠ 13 ∧ q ≠ 32 := by have k1 := byte_eq c 9; have k2 := byte_eq c 13; have k3 := byte_eq c 32; rw [hq] at k1 k2 k3; unfold blankB at hb; simp only [Bool.or_eq_false_iff] at hb; rw [hb.2.1] at k1; rw [hb.2.2] at k2; rw [hb.1] at k3; exact ⟨by simpa using k1, by simpa using k2, by simpa using k3⟩
            obtain ⟨z1, z2, z3⟩ := hbq
            have y1 : (q == 9) = false := by simpa using z1
            have y2 : (q == 13) = false := by simpa using z2
            have y3 : (q == 32) = false := by simpa using z3
            have h32 : decide (32 < c.toNat) = true := if h9 : 32 < c.toNat then decide_eq_true h9 else ((over32 HCC.out).2 (decide_eq_false h9)).elim (fun k => by rw [k] at hb; cases hb) (fun k => absurd k h10)
            by_cases h35 : c = 35
            · subst h35
              have hq35 : q = 35 := hq.symm
              subst hq35
              clear hq
              go_wp2
              go_roundg (2 * (L.length + 1 - i))
              case rel => exact ⟨i, bg, n, true, now, out, vs, oa, na, ol, oc, nl, nc, by simp, by omega, by omega, by omega, by omega, by omega, by omega, rfl, rfl, rfl, rfl, rfl, rfl, HOL, HNL, Lib.hid (fun _ => by have h := HF.out (by omega); rw [HDR.out, rest_remark] at h; rw [HDR.out]; exact h), Lib.hid (fun h => absurd h (by omega)), HH, hbel⟩
              case measure => simp at hg; omega
            · have hne35 : (c == 35) = false := by simpa using h35
              have z4 : q ≠ 35 := fun h => by have k := byte_eq c 35; rw [show ((35 : UInt8).toNat : Int) = 35 from rfl, hq, hne35] at k; rw [h] at k; simp at k
              have y4 : (q == 35) = false := by simpa using z4
              have HFL := Lib.hid (show out ++ restF n (i - bg + ((L.drop i).takeWhile (fun x => decide (32 < x.toNat))).length) false (now ++ [⟨(L.drop i).takeWhile (fun x => decide (32 < x.toNat)), n, ((i - bg : Nat) : Int) + 1⟩]) ((L.drop i).drop ((L.drop i).takeWhile (fun x => decide (32 < x.toNat))).length) = fieldsF L by have h := HF.out (by omega); rw [HDR.out, rest_field n (i - bg) now _ (fun x hx => HOK.out x (List.mem_of_mem_drop (HDR.out ▸ hx))) h32 hne35] at h; rw [HDR.out]; exact h)
              obtain ⟨wd, hwd⟩ : ∃ x, (L.drop i).takeWhile (fun x => decide (32 < x.toNat)) = x := ⟨_, rfl⟩
              rw [hwd] at HFL
              have HWD := Lib.hid hwd
              have hwl : 0 < wd.length ∧ i + wd.length ≤ L.length := by rw [← hwd]; have h1 := (List.takeWhile_prefix (fun x : UInt8 => decide (32 < x.toNat)) (l := L.drop i)).length_le; rw [List.length_drop] at h1; refine ⟨?_, by omega⟩; rw [HDR.out, List.takeWhile_cons_of_pos (p := fun x : UInt8 => decide (32 < x.toNat)) h32]; simp
              clear hwd
              obtain ⟨hwl0, hwl1⟩ := hwl
              obtain ⟨e, he⟩ : ∃ e, i + wd.length = e := ⟨_, rfl⟩
              have HIN := Lib.hid (word_in HWD.out)
              have HOUT := Lib.hid (word_out HWD.out)
              rw [he] at HIN HOUT hwl1
              have HWT := Lib.hid (show (L.drop i).take (e - i) = wd by rw [← he, Nat.add_sub_cancel_left]; have h := (List.takeWhile_prefix (fun x : UInt8 => decide (32 < x.toNat)) (l := L.drop i)); rw [HWD.out] at h; exact (List.prefix_iff_eq_take.1 h).symm)
              go_wp2
              go_loopg [9] wd.length (fun g3 jv wr2 => ∃ j : Nat, j + g3 = e ∧ i ≤ j ∧ jv = .int .i64 j ∧ wr = wr2)
              case atStart => exact ⟨i, he, Nat.le_refl _, rfl, rfl⟩
              case round =>
                obtain ⟨j, hje, hij, rfl, rfl⟩ := hrel
                cases gk with
                | zero =>
                  obtain rfl : j = e := by omega
                  by_cases hel : j < L.length
                  · obtain ⟨c2, hc2, hc3⟩ := HOUT.out hel
                    have cj : wr.cell? ⟨b, off + j, none⟩ = some (.int .u8 (c2.toNat : Int)) := HCELL.out j c2 hc2
                    have hdj : decide ((j : Int) < (L.length : Int)) = true := decide_eq_true (by omega)
                    have hjn : (j : Int) < (L.length : Int) := by omega
                    have hj0 : (0 : Int) ≤ (j : Int) := by omega
                    have hg3 : decide ((32 : Int) < (c2.toNat : Int)) = false := decide_eq_false (by omega)
                    have hg4 : ¬ (32 : Int) < (c2.toNat : Int) := by omega
                    have hcv := conv_sub (HI.out.later hbel) hij (show j ≤ L.length by omega)
                    rw [HWT.out] at hcv
                    have HWX := Lib.hid (HWT.out)
                    have hbc : (i : Int) - (bg : Int) = ((i - bg : Nat) : Int) := by omega
                    have hw1 : IntKind.i64.wrap ((i : Int) - (bg : Int)) = ((i - bg : Nat) : Int) := by rw [hbc]; exact IntWalk.i64_in _ (by omega)
                    have hw2 : IntKind.i64.wrap (((i - bg : Nat) : Int) + 1) = ((i - bg : Nat) : Int) + 1 := IntWalk.i64_in _ (by omega)
                    have hcapI : (j : Int) ≤ (cap : Int) := by omega
                    have hijI : (i : Int) ≤ (j : Int) := by omega
                    clear hw2
                    have HEE := Lib.hid he
                    have HA := Lib.hid (HH.out.alloc (.cells #[.string (bA wd), .int .i64 n, .int .i64 (((i - bg : Nat) : Int) + 1)] 33))
                    have HBA := Lib.hid (belAlloc hbel (.cells #[.string (bA wd), .int .i64 n, .int .i64 (((i - bg : Nat) : Int) + 1)] 33))
                    have HRX := Lib.hid (show Row (wr.alloc (.cells #[.string (bA wd), .int .i64 n, .int .i64 (((i - bg : Nat) : Int) + 1)] 33)) (some ⟨wr.heap.size, 0, none⟩) 1 1 3 [.string (bA wd), .int .i64 n, .int .i64 (((i - bg : Nat) : Int) + 1)] from row_of_blkN (n := 1) (k := 3) (Blk.new wr [.string (bA wd), .int .i64 n, .int .i64 (((i - bg : Nat) : Int) + 1)] 33) rfl (by decide))
                    have HO := Lib.hid (show OwnR (wr.alloc (.cells #[.string (bA wd), .int .i64 n, .int .i64 (((i - bg : Nat) : Int) + 1)] 33)) w.heap.size 33 3 (.slice na nl nc) nl (now.flatMap FldV.cells) from HNL.out ▸ HA.out.own)
                    go_wp2_with (at_builtin; refine wpList_app_sep rfl _ _ 31 rfl w.heap.size 33 _ 3 32 Tryd.underlying31 info_fld rfl (by decide) _ nl _ rfl HO.out _ 1 1 [.string (bA wd), .int .i64 n, .int .i64 (((i - bg : Nat) : Int) + 1)] rfl HRX.out (fun u hu => by simp at hu; rcases hu with rfl | rfl | rfl <;> rfl) ?c1 ?c2 ?c3 ?_)
                    case c1 => simp only [maxLen]; omega
                    case c2 => omega
                    case c3 => first | exact HBA.out.size | (have := hbel.size; omega)
                    intro v2 w2 ho2 hb2 hg2 hm2
                    have HG := Lib.hid (HA.out.grow (f := ⟨wd, n, ((i - bg : Nat) : Int) + 1⟩) (by rw [HNL.out]; exact ho2) hg2 hm2)
                    obtain ⟨na2, nc2, e2, _⟩ := rowR_of_own ho2
                    subst e2
                    have HB2 := Lib.hid (HBA.out.trans hb2)
                    have HNL2 := Lib.hid (show (now ++ [(⟨wd, n, ((i - bg : Nat) : Int) + 1⟩ : FldV)]).length = nl + 1 by rw [List.length_append, HNL.out]; rfl)
                    clear ho2 hb2 hg2 hm2 hcv
                    go_wp2
                    go_roundg (2 * (L.length + 1 - j) + 1)
                    case rel => exact ⟨j, bg, n, false, _, out, vs, oa, na2, ol, oc, nl + 1, nc2, by simp, by omega, by omega, by omega, by omega, by omega, by omega, rfl, rfl, rfl, rfl, rfl, rfl, HOL, HNL2, Lib.hid (fun _ => by have h := HFL.out; rw [List.drop_drop, HEE.out, show i - bg + wd.length = j - bg by have := HEE.out; omega] at h; exact h), Lib.hid (fun h => absurd h (by omega)), HG, HB2.out⟩
                    case measure => simp at hg; omega
                  · have hdj : decide ((j : Int) < (L.length : Int)) = false := decide_eq_false (by omega)
                    have hjn : ¬ (j : Int) < (L.length : Int) := by omega
                    have hcv := conv_sub (HI.out.later hbel) hij (show j ≤ L.length by omega)
                    rw [HWT.out] at hcv
                    have HWX := Lib.hid (HWT.out)
                    have hbc : (i : Int) - (bg : Int) = ((i - bg : Nat) : Int) := by omega
                    have hw1 : IntKind.i64.wrap ((i : Int) - (bg : Int)) = ((i - bg : Nat) : Int) := by rw [hbc]; exact IntWalk.i64_in _ (by omega)
                    have hw2 : IntKind.i64.wrap (((i - bg : Nat) : Int) + 1) = ((i - bg : Nat) : Int) + 1 := IntWalk.i64_in _ (by omega)
                    have hcapI : (j : Int) ≤ (cap : Int) := by omega
                    have hijI : (i : Int) ≤ (j : Int) := by omega
                    clear hw2
                    have HEE := Lib.hid he
                    have HA := Lib.hid (HH.out.alloc (.cells #[.string (bA wd), .int .i64 n, .int .i64 (((i - bg : Nat) : Int) + 1)] 33))
                    have HBA := Lib.hid (belAlloc hbel (.cells #[.string (bA wd), .int .i64 n, .int .i64 (((i - bg : Nat) : Int) + 1)] 33))
                    have HRX := Lib.hid (show Row (wr.alloc (.cells #[.string (bA wd), .int .i64 n, .int .i64 (((i - bg : Nat) : Int) + 1)] 33)) (some ⟨wr.heap.size, 0, none⟩) 1 1 3 [.string (bA wd), .int .i64 n, .int .i64 (((i - bg : Nat) : Int) + 1)] from row_of_blkN (n := 1) (k := 3) (Blk.new wr [.string (bA wd), .int .i64 n, .int .i64 (((i - bg : Nat) : Int) + 1)] 33) rfl (by decide))
                    have HO := Lib.hid (show OwnR (wr.alloc (.cells #[.string (bA wd), .int .i64 n, .int .i64 (((i - bg : Nat) : Int) + 1)] 33)) w.heap.size 33 3 (.slice na nl nc) nl (now.flatMap FldV.cells) from HNL.out ▸ HA.out.own)
                    go_wp2_with (at_builtin; refine wpList_app_sep rfl _ _ 31 rfl w.heap.size 33 _ 3 32 Tryd.underlying31 info_fld rfl (by decide) _ nl _ rfl HO.out _ 1 1 [.string (bA wd), .int .i64 n, .int .i64 (((i - bg : Nat) : Int) + 1)] rfl HRX.out (fun u hu => by simp at hu; rcases hu with rfl | rfl | rfl <;> rfl) ?c1 ?c2 ?c3 ?_)
                    case c1 => simp only [maxLen]; omega
                    case c2 => omega
                    case c3 => first | exact HBA.out.size | (have := hbel.size; omega)
                    intro v2 w2 ho2 hb2 hg2 hm2
                    have HG := Lib.hid (HA.out.grow (f := ⟨wd, n, ((i - bg : Nat) : Int) + 1⟩) (by rw [HNL.out]; exact ho2) hg2 hm2)
                    obtain ⟨na2, nc2, e2, _⟩ := rowR_of_own ho2
                    subst e2
                    have HB2 := Lib.hid (HBA.out.trans hb2)
                    have HNL2 := Lib.hid (show (now ++ [(⟨wd, n, ((i - bg : Nat) : Int) + 1⟩ : FldV)]).length = nl + 1 by rw [List.length_append, HNL.out]; rfl)
                    clear ho2 hb2 hg2 hm2 hcv
                    go_wp2
                    go_roundg (2 * (L.length + 1 - j) + 1)
                    case rel => exact ⟨j, bg, n, false, _, out, vs, oa, na2, ol, oc, nl + 1, nc2, by simp, by omega, by omega, by omega, by omega, by omega, by omega, rfl, rfl, rfl, rfl, rfl, rfl, HOL, HNL2, Lib.hid (fun _ => by have h := HFL.out; rw [List.drop_drop, HEE.out, show i - bg + wd.length = j - bg by have := HEE.out; omega] at h; exact h), Lib.hid (fun h => absurd h (by omega)), HG, HB2.out⟩
                    case measure => simp at hg; omega
                | succ g3 =>
                  obtain ⟨c2, hc2, hc3⟩ := HIN.out j hij (by omega)
                  have cj : wr.cell? ⟨b, off + j, none⟩ = some (.int .u8 (c2.toNat : Int)) := HCELL.out j c2 hc2
                  have hdj : decide ((j : Int) < (L.length : Int)) = true := decide_eq_true (by omega)
                  have hjn : (j : Int) < (L.length : Int) := by omega
                  have hj0 : (0 : Int) ≤ (j : Int) := by omega
                  have hg3 : decide ((32 : Int) < (c2.toNat : Int)) = true := decide_eq_true (by omega)
                  have hg4 : (32 : Int) < (c2.toNat : Int) := by omega
                  go_wp2
                  go_roundg g3
                  case rel => exact ⟨j + 1, by omega, by omega, by push_cast; rfl, by first | rfl | trivial⟩
                  case measure => omega
    · subst heq
      have hd : decide ((L.length : Int) ≤ (L.length : Int)) = true := decide_eq_true (by omega)
      have hd2 : ((L.length : Int) == (L.length : Int)) = true := by simp
      have HF2 := Lib.hid (show out ++ curL now = fieldsF L by have h := HF.out (Nat.le_refl _); rw [List.drop_length, rest_end] at h; exact h)
      by_cases hn0 : nl = 0
      · obtain rfl : now = [] := List.eq_nil_of_length_eq_zero (by rw [HNL.out]; exact hn0)
        subst hn0
        go_wp2
        go_roundg (2 * (L.length + 1 - (L.length + 1)) + 1)
        case rel => exact ⟨L.length + 1, L.length + 1, n + 1, false, [], out, vs, oa, none, ol, oc, 0, 0, by simp, by omega, Nat.le_refl _, by omega, by push_cast; omega, by omega, by omega, rfl, rfl, rfl, by push_cast; rfl, rfl, by push_cast; rfl, HOL, Lib.hid rfl, Lib.hid (fun h => absurd h (by omega)), Lib.hid (fun _ => by have h := HF2.out; rw [curL_nil, List.append_nil] at h; exact h), Lib.hid HH.out.fresh, hbel⟩
        case measure => omega
      · have hnp : (0 : Int) < (nl : Int) := by omega
        have hnd : decide ((0 : Int) < (nl : Int)) = true := decide_eq_true hnp
        have HC := Lib.hid (show curL now = [now] by unfold curL; cases now with | nil => have := HNL.out; simp at this; omega | cons y ys => rfl)
        have hbo := HOL.out
        have HA := Lib.hid (HH.out.alloc (.cells #[.slice na nl nc] 31))
        have HBA := Lib.hid (belAlloc hbel (.cells #[.slice na nl nc] 31))
        have HRX := Lib.hid (show Row (wr.alloc (.cells #[.slice na nl nc] 31)) (some ⟨wr.heap.size, 0, none⟩) 1 1 1 [.slice na nl nc] from row_of_blkN (n := 1) (k := 1) (Blk.new wr [.slice na nl nc] 31) rfl (by decide))
        have HO := Lib.hid (show OwnR (wr.alloc (.cells #[.slice na nl nc] 31)) w.heap.size 31 1 (.slice oa ol oc) ol vs from HOL.out ▸ HA.out.rows.out)
        go_wp2_with (at_builtin; refine wpList_app_sep rfl _ _ 24 rfl w.heap.size 31 _ 1 24 Tryd.underlying24 info_row rfl (by decide) _ ol _ rfl HO.out _ 1 1 [.slice na nl nc] rfl HRX.out (fun u hu => by simp at hu; subst hu; rfl) ?c1 ?c2 ?c3 ?_)
        case c1 => simp only [maxLen]; omega
        case c2 => omega
        case c3 => first | exact HBA.out.size | (have := hbel.size; omega)
        intro v2 w2 ho2 hb2 hg2 _
        have HP := Lib.hid (HA.out.push (by rw [HOL.out]; exact ho2) hg2)
        obtain ⟨oa2, oc2, e2, _⟩ := rowR_of_own ho2
        subst e2
        have HB2 := Lib.hid (HBA.out.trans hb2)
        have HOL2 := Lib.hid (show (out ++ [now]).length = ol + 1 by rw [List.length_append, HOL.out]; rfl)
        clear ho2 hb2 hg2
        go_wp2
        go_roundg (2 * (L.length + 1 - (L.length + 1)) + 1)
        case rel => exact ⟨L.length + 1, L.length + 1, n + 1, false, [], out ++ [now], vs ++ [.slice na nl nc], oa2, none, ol + 1, oc2, 0, 0, by simp, by omega, Nat.le_refl _, by omega, by push_cast; omega, by omega, by omega, rfl, rfl, rfl, by push_cast; rfl, rfl, by push_cast; rfl, HOL2, Lib.hid rfl, Lib.hid (fun h => absurd h (by omega)), Lib.hid (fun _ => by have h := HF2.out; rw [HC.out] at h; exact h), HP, HB2.out⟩
        case measure => omega
    · obtain rfl : i = L.length + 1 := by omega
      have hd : decide (((L.length + 1 : Nat) : Int) ≤ (L.length : Int)) = false := decide_eq_false (by push_cast; omega)
      have hd9 : ¬ ((L.length + 1 : Nat) : Int) ≤ (L.length : Int) := by push_cast; omega
      have HFF := Lib.hid (HE.out rfl)
      rw [HFF.out] at HH HOL
      generalize ((L.length + 1 : Nat) : Int) = zi at *
      go_wp2
      go_ret
      refine ⟨⟨oa, oc, ?_, vs, ?_⟩, hbel⟩
      · show Ending.returned (.slice oa ol oc) = _
        rw [HOL.out]
      · rw [HOL.out]; exact HH.out.rows
end Go.Proofs.YtgmgeefipkfdcaaDoor
