
/- LogAll holds for all its arguments. No conditions but that the library's variables lie as its own text lays them. -/
import Derived.Lay
import Derived.ChangeKeysEq
import Derived.Test.YtekakalhknjdaaaDoorLgB
import Derived.Test.YtekakalhknjdaaaDoorThrCards
import Derived.Test.YtekakalhknjdaaaDoorLgF
import Derived.Test.YtekakalhknjdaaaDoorLgH
import Derived.Test.YtekakalhknjdaaaDoorSamesL
namespace Go.Proofs.YtekakalhknjdaaaDoor.logAll
open Go.ChangeShapes Go.WideShapes Go.ChangeAt Go.RowKit
open Go.ChangeMaps (open_string shut_string)
set_option linter.unusedVariables false
set_option linter.unusedSimpArgs false
theorem good_later {W u : World} {x : StepV} (h : x.good W) (hb : Below W.heap.size W u) : x.good u := ⟨h.1, h.2.later hb⟩
def GoodP (A : List (Int × EvV)) (gd : Bool) (R : List ByteArray) : Prop := R.length = A.length ∧ (gd = true → seqL A = some (R.map (fun b => b.data.toList))) ∧ (gd = false → seqL A = none)
theorem good_yes {A : List (Int × EvV)} {gd : Bool} {R : List ByteArray} {r : Int} {e : EvV} {s : List UInt8} (h : GoodP A gd R) (hl : lineE r e = some s) : GoodP (A ++ [(r, e)]) gd (R ++ [bA s]) := by
  obtain ⟨h1, h2, h3⟩ := h
  refine ⟨by simp [h1], fun g => ?_, fun g => ?_⟩
  · rw [seqL_snoc, h2 g]; simp only; rw [hl]; simp [bA_data]
  · rw [seqL_snoc, h3 g]
theorem good_no {A : List (Int × EvV)} {gd : Bool} {R : List ByteArray} {r : Int} {e : EvV} {t : ByteArray} (h : GoodP A gd R) (hl : lineE r e = none) : GoodP (A ++ [(r, e)]) false (R ++ [t]) := by
  obtain ⟨h1, h2, h3⟩ := h
  refine ⟨by simp [h1], (fun g => by cases g), fun _ => ?_⟩
  rw [seqL_snoc]
  cases gd with
  | true => rw [h2 rfl]; simp only; rw [hl]
  | false => rw [h3 rfl]
theorem lns_yes' {base : Nat} {L : List StepV} {R : List (List UInt8)} {e0 : Ending} {w' : World} (h : seqL (evsOf L) = some R) (hp : LnsP base L e0 w') : ∃ (a : Option Addr) (c : Nat), e0 = .returned (.tuple #[.slice a R.length c, .int .i64 0]) ∧ OwnR w' base 9 1 (.slice a R.length c) R.length (R.map strB) := by unfold LnsP at hp; rw [h] at hp; exact hp
theorem str_back (R : List ByteArray) : (R.map (fun b => b.data.toList)).map strB = R.map Value.string := by
  rw [List.map_map]
  refine List.map_congr_left (fun b _ => ?_)
  show Value.string (bA b.data.toList) = Value.string b
  rw [bA_self]
theorem lns_yesB {base : Nat} {L : List StepV} {R : List ByteArray} {e0 : Ending} {w' : World} (h : seqL (evsOf L) = some (R.map (fun b => b.data.toList))) (hp : LnsP base L e0 w') : ∃ (a : Option Addr) (c : Nat), e0 = .returned (.tuple #[.slice a R.length c, .int .i64 0]) ∧ OwnR w' base 9 1 (.slice a R.length c) R.length (R.map Value.string) := by
  obtain ⟨a, c, h1, h2⟩ := lns_yes' h hp
  rw [str_back] at h2
  rw [List.length_map] at h1 h2
  exact ⟨a, c, h1, h2⟩
theorem lns_no' {base : Nat} {L : List StepV} {e0 : Ending} {w' : World} (h : seqL (evsOf L) = none) (hp : LnsP base L e0 w') : e0 = .returned (.tuple #[.slice none 0 0, .int .i64 1]) := by unfold LnsP at hp; rw [h] at hp; exact hp
set_option maxRecDepth 100000 in
set_option maxHeartbeats 4000000 in
theorem eq17 (n : Nat → Int) (w : World) : (Op.equalIn 10000 42 (.agg #[.int .i64 (n 0), .int .i64 (n 1), .int .i64 (n 2), .int .i64 (n 3), .int .i64 (n 4), .int .i64 (n 5), .int .i64 (n 6), .int .i64 (n 7), .int .i64 (n 8), .int .i64 (n 9), .int .i64 (n 10), .int .i64 (n 11), .int .i64 (n 12), .int .i64 (n 13), .int .i64 (n 14), .int .i64 (n 15), .int .i64 (n 16)]) (.agg #[.int .i64 (n 0), .int .i64 (n 1), .int .i64 (n 2), .int .i64 (n 3), .int .i64 (n 4), .int .i64 (n 5), .int .i64 (n 6), .int .i64 (n 7), .int .i64 (n 8), .int .i64 (n 9), .int .i64 (n 10), .int .i64 (n 11), .int .i64 (n 12), .int .i64 (n 13), .int .i64 (n 14), .int .i64 (n 15), .int .i64 (n 16)])).run Tryd.prog w = .ok true w := by
  have hi0 : (Tryd.prog.info? 3).isSome = true := by kernel_rfl
  obtain ⟨i, hi⟩ := Option.isSome_iff_exists.1 hi0
  rw [run_equalIn_array w 9999 _ _ Tryd.underlying42 hi]
  simp [Op.eqItems, go_sem, show Tryd.prog.cellsOf 3 = 1 by kernel_rfl]
set_option maxRecDepth 100000 in
set_option maxHeartbeats 64000000 in
theorem walk (a : Option Addr) (len cap : Nat) (L : List StepV) (W : World) (ht : Env W) (hl : L.length = len) (hG : ∀ x ∈ L, x.good W) (hR : Row W a len cap 7 (L.flatMap StepV.cells)) :
    Calls Tryd.prog 7 #[.slice a len cap] W fun e0 w' => e0 = .returned (.bool true) ∧ Below W.heap.size W w' := by
  have hbd_a : len ≤ cap ∧ cap ≤ 9223372036854775807 := by obtain ⟨_, h1, h2, _⟩ := hR; unfold maxLen at h2; exact ⟨h1, h2⟩
  obtain ⟨hbd1_a, hbd2_a⟩ := hbd_a
  have hbel : Below W.heap.size W W := Below.refl _ _
  have HE := Lib.hid (fun u (hu : Below W.heap.size W u) => ht.later hu)
  have HR := Lib.hid hR
  have HG := Lib.hid hG
  subst hl
  have CA := Lib.hid (fun u (hu : Below W.heap.size W u) => awake27 u (HE.out u hu))
  have CF := Lib.hid (fun u (hu : Below W.heap.size W u) => rf_Few27 a L.length cap L u rfl (fun x hx => good_later (HG.out x hx) hu) (HR.out.later hu))
  clear ht hR hG
  cases hf : fewS L with
  | false =>
    rw [hf] at CF
    clear hf
    go_enter Tryd.func7, Tryd.ntmps7
    go_wp2_with (first | (go_at_call 10; (with_reducible refine (CA.out _ hbel).mono ?_); rintro e9 w9 ⟨rfl, hb9⟩; replace hbel := belStep hbel hb9; clear hb9) | (go_at_call 16; (with_reducible refine (CF.out _ hbel).mono ?_); rintro e9 wf ⟨rfl, rfl⟩))
    go_ret
    exact ⟨rfl, hbel⟩
  | true =>
    have HT := Lib.hid (fewS_bd hf HG.out)
    have hl40 := HT.out.1
    rw [hf] at CF
    clear hf
    go_enter Tryd.func7, Tryd.ntmps7
    go_upto_region 3 with (first | (go_at_call 10; (with_reducible refine (CA.out _ hbel).mono ?_); rintro e9 w9 ⟨rfl, hb9⟩; replace hbel := belStep hbel hb9; clear hb9) | (go_at_call 16; (with_reducible refine (CF.out _ hbel).mono ?_); rintro e9 wf ⟨rfl, rfl⟩))
    clear CA CF
    go_upto_region 6 with fail
    have HA0 := Lib.hid (Blk.new w9 [.int .i64 0, .int .i64 0, .int .i64 0, .int .i64 0, .int .i64 0, .int .i64 0, .int .i64 0, .int .i64 0, .int .i64 0, .int .i64 0, .int .i64 0, .int .i64 0, .int .i64 0, .int .i64 0, .int .i64 0, .int .i64 0, .int .i64 0] 42)
    have HB0 := Lib.hid (hbel.trans ((belAlloc (Below.refl w9.heap.size w9) (.cells #[.int .i64 0, .int .i64 0, .int .i64 0, .int .i64 0, .int .i64 0, .int .i64 0, .int .i64 0, .int .i64 0, .int .i64 0, .int .i64 0, .int .i64 0, .int .i64 0, .int .i64 0, .int .i64 0, .int .i64 0, .int .i64 0, .int .i64 0] 42)).mono hbel.size))
    have hqc : W.heap.size ≤ w9.heap.size := hbel.size
    clear hbel
    generalize w9.alloc (.cells #[.int .i64 0, .int .i64 0, .int .i64 0, .int .i64 0, .int .i64 0, .int .i64 0, .int .i64 0, .int .i64 0, .int .i64 0, .int .i64 0, .int .i64 0, .int .i64 0, .int .i64 0, .int .i64 0, .int .i64 0, .int .i64 0, .int .i64 0] 42) = wA at *
    generalize w9.heap.size = qc at *
    rw [← cntL_nil] at HA0
    go_wp2
    go_loopw [3, 5, 6] (fun v gv iv wr => ∃ (k : Nat) (gd : Bool) (R : List ByteArray), k ≤ L.length ∧ iv = .int .i64 k ∧ gv = .bool gd ∧ OwnR wr W.heap.size 9 1 v R.length (R.map Value.string) ∧ Hid (GoodP (evsOf (L.take k)) gd R) ∧ Hid (Blk wr qc (cntL (evsOf (L.take k))) 42) ∧ Hid (Below W.heap.size W wr)) (fun _ _ iv _ => L.length - (intOf iv).toNat)
    case atStart => exact ⟨0, true, [], Nat.zero_le _, rfl, rfl, OwnR.nil _ _ _ _, Lib.hid ⟨rfl, fun _ => rfl, fun h => by cases h⟩, HA0, HB0⟩
    case round =>
      clear HA0 HB0
      obtain ⟨k, gd, R, hk, rfl, rfl, hO, HP, HC, HB⟩ := hrel
      by_cases hlt : k < L.length
      · have hd : decide ((k : Int) < (L.length : Int)) = true := decide_eq_true (by omega)
        obtain ⟨x, hx⟩ : ∃ x, L[k]? = some x := ⟨L[k], List.getElem?_eq_getElem hlt⟩
        obtain ⟨bc0, oc0, ec0, _, _⟩ := (HR.out).elem StepV.cells_len (by omega) hx
        subst ec0
        have HX := Lib.hid hx
        obtain ⟨⟨_, hrn, hen, hye⟩, hyr⟩ := HG.out x (List.mem_of_getElem? hx)
        have HY := Lib.hid hye
        have HYR := Lib.hid hyr
        have HEN := Lib.hid hen
        have HRN := Lib.hid hrn
        have hxb := HT.out.2.1 x (List.mem_of_getElem? hx)
        have hbd_e : x.en ≤ x.ec ∧ x.ec ≤ 9223372036854775807 := by obtain ⟨_, h1, h2, _⟩ := hyr; unfold maxLen at h2; exact ⟨h1, h2⟩
        obtain ⟨hbd1_e, hbd2_e⟩ := hbd_e
        clear hx hye hrn hen hyr
        have HO := Lib.hid hO
        clear hO
        go_wp2
        go_loopw [3, 5, 7] (fun v gv iv wq => ∃ (j : Nat) (gd : Bool) (R : List ByteArray), j ≤ x.en ∧ iv = .int .i64 j ∧ gv = .bool gd ∧ OwnR wq W.heap.size 9 1 v R.length (R.map Value.string) ∧ Hid (GoodP (evsOf (L.take k) ++ (evsS x).take j) gd R) ∧ Hid (Blk wq qc (cntL (evsOf (L.take k) ++ (evsS x).take j)) 42) ∧ Hid (Below W.heap.size W wq)) (fun _ _ iv _ => x.en - (intOf iv).toNat)
        case atStart => exact ⟨0, gd, R, Nat.zero_le _, rfl, rfl, HO.out, by rw [List.take_zero, List.append_nil]; exact HP, by rw [List.take_zero, List.append_nil]; exact HC, HB⟩
        case round =>
          clear HO HP HC HB
          obtain ⟨j, gd, R, hj, rfl, rfl, hO, HP, HC, HB⟩ := hrel
          have hx := HX.out
          obtain ⟨bc, oc, ec, _, hcc⟩ := (HR.out.later HB.out).elem StepV.cells_len (by omega) hx
          simp only [Option.some.injEq, Addr.mk.injEq, and_true] at ec
          obtain ⟨rfl, rfl⟩ := ec
          have c0 := keep (hcc 0 _ rfl)
          have c1 := keep (hcc 1 _ rfl)
          have c2 := keep (hcc 2 _ rfl)
          have c3 := keep (hcc 3 _ rfl)
          have c4 := keep (hcc 4 _ rfl)
          have c5 := keep (hcc 5 _ rfl)
          have c6 := keep (hcc 6 _ rfl)
          rw [Nat.add_zero] at c0
          clear hx hcc
          have hbel : Below wr.heap.size wr wr := Below.refl _ _
          by_cases hjt : j < x.en
          · obtain ⟨y, hy⟩ : ∃ y, x.E[j]? = some y := ⟨_, List.getElem?_eq_getElem (show j < x.E.length by rw [HEN.out]; exact hjt)⟩
            have heb := HYR.out.later HB.out
            generalize hea : x.ea = ea at *
            obtain ⟨bd, od, ed, _, hcd⟩ := (heb).elem EvV.cells_len (by omega) hy
            subst ed
            have d0 := keep (hcd 0 _ rfl)
            have d1 := keep (hcd 1 _ rfl)
            have d2 := keep (hcd 2 _ rfl)
            have d3 := keep (hcd 3 _ rfl)
            rw [Nat.add_zero] at d0
            clear heb
            have hd : decide ((j : Int) < (x.en : Int)) = true := decide_eq_true (by omega)
            have HEV := Lib.hid (evs_in hy)
            have HLI := Lib.hid (evs_lenI HX.out (j + 1))
            rw [HEV.out] at HLI
            obtain ⟨yi1, yi2, yi3, yi4⟩ := HY.out y (List.mem_of_getElem? hy)
            have HYS := Lib.hid yi2
            have HYN := Lib.hid yi4
            clear hy hcd yi1 yi2 yi3 yi4
            obtain ⟨N, hN⟩ : ∃ N, evsOf (L.take k) ++ (evsS x).take j = N := ⟨_, rfl⟩
            have HN := Lib.hid (show evsOf (L.take k) ++ (evsS x).take (j + 1) = N ++ [(x.round, y)] from by rw [HEV.out, ← List.append_assoc, hN])
            rw [← List.append_assoc, hN] at HLI
            rw [hN] at HC HP
            clear hN HEV
            go_upto_region 13 with fail
            have hkq := belAlloc (Below.refl wr.heap.size wr) (.cells #[.int .i64 y.kind, .string y.id, .int .i64 y.sig, .int .i64 y.n] 23)
            have HBb := Lib.hid (belStep HB.out hkq)
            have HOb := Lib.hid (OwnR.alloc hO (.cells #[.int .i64 y.kind, .string y.id, .int .i64 y.sig, .int .i64 y.n] 23))
            have HCb := Lib.hid (HC.out.later hkq)
            have HYb := Lib.hid (Blk.new wr [.int .i64 y.kind, .string y.id, .int .i64 y.sig, .int .i64 y.n] 23)
            have c2b := keepOnP c2 hkq
            have hq8 := HC.out.lt
            clear hbel c0 c1 c2 c3 c4 c5 c6 d0 d1 d2 d3 hO HC HB hkq
            generalize wr.alloc (.cells #[.int .i64 y.kind, .string y.id, .int .i64 y.sig, .int .i64 y.n] 23) = wb at *
            generalize wr.heap.size = q8 at *
            have y0 := keep (HYb.out.cell (j := 0) rfl)
            have y1 := keep (HYb.out.cell (j := 1) rfl)
            have y2 := keep (HYb.out.cell (j := 2) rfl)
            have y3 := keep (HYb.out.cell (j := 3) rfl)
            have hbel : Below wb.heap.size wb wb := Below.refl _ _
            have CL := Lib.hid (fun u => rf_Line27 y.kind y.sig y.n x.round y.id u HYS.out HRN.out HYN.out)
            cases hln : lineE x.round y with
            | none =>
              as_aux_lemma =>
                refine wp_region_held_drew (S := fun u => Below wb.heap.size wb u) (by kernel_rfl) (by exact (show Below wb.heap.size wb _ by repeat (first | assumption | exact Below.refl _ _ | refine belDrew ?_ | refine belAlloc ?_ _ | refine belStep ?_ (by assumption)))) (fun hHeld => ?_)
                refine wpAnyH_take (i := 0) (oi := ?oi_k1) (v := ?v_k1) ?hi_k1 (by kernel_rfl) ?hf_k1 ?hr_k1 ?hQ_k1 (Or.inl ⟨?hw_k1, ?hy_k1⟩) (by assumption) ?rest_k1
                case hi_k1 => ((simp only [List.getElem?_toArray, List.getElem?_cons_succ, List.getElem?_cons_zero]); rfl)
                case hf_k1 => kernel_rfl
                case hr_k1 => kernel_rfl
                case hQ_k1 => exact fun _ _ _ h => h
                case hw_k1 => rfl
                case hy_k1 => ((intro w hSw; (try dsimp only at hSw); go_simp); all_goals (with_reducible rfl))
                try simp only [Act.put, List.setIfInBounds_toArray, List.set_cons_zero, List.set_cons_succ]
                refine wpAnyH_take (i := 1) (oi := ?oi_k2) (v := ?v_k2) ?hi_k2 (by kernel_rfl) ?hf_k2 ?hr_k2 ?hQ_k2 (Or.inl ⟨?hw_k2, ?hy_k2⟩) (by assumption) ?rest_k2
                case hi_k2 => ((simp only [List.getElem?_toArray, List.getElem?_cons_succ, List.getElem?_cons_zero]); rfl)
                case hf_k2 => kernel_rfl
                case hr_k2 => kernel_rfl
                case hQ_k2 => exact fun _ _ _ h => h
                case hw_k2 => rfl
                case hy_k2 => ((intro w hSw; (try dsimp only at hSw); go_simp); all_goals (with_reducible rfl))
                try simp only [Act.put, List.setIfInBounds_toArray, List.set_cons_zero, List.set_cons_succ]
                refine wpAnyH_take (i := 2) (oi := ?oi_k3) (v := ?v_k3) ?hi_k3 (by kernel_rfl) ?hf_k3 ?hr_k3 ?hQ_k3 (Or.inl ⟨?hw_k3, ?hy_k3⟩) (by assumption) ?rest_k3
                case hi_k3 => ((simp only [List.getElem?_toArray, List.getElem?_cons_succ, List.getElem?_cons_zero]); rfl)
                case hf_k3 => kernel_rfl
                case hr_k3 => kernel_rfl
                case hQ_k3 => exact fun _ _ _ h => h
                case hw_k3 => rfl
                case hy_k3 => ((intro w hSw; (try dsimp only at hSw); go_simp); all_goals (with_reducible rfl))
                try simp only [Act.put, List.setIfInBounds_toArray, List.set_cons_zero, List.set_cons_succ]
                refine wpAnyH_take (i := 3) (oi := ?oi_k4) (v := ?v_k4) ?hi_k4 (by kernel_rfl) ?hf_k4 ?hr_k4 ?hQ_k4 (Or.inl ⟨?hw_k4, ?hy_k4⟩) (by assumption) ?rest_k4
                case hi_k4 => ((simp only [List.getElem?_toArray, List.getElem?_cons_succ, List.getElem?_cons_zero]); rfl)
                case hf_k4 => kernel_rfl
                case hr_k4 => kernel_rfl
                case hQ_k4 => exact fun _ _ _ h => h
                case hw_k4 => rfl
                case hy_k4 => ((intro w hSw; (try dsimp only at hSw); go_simp); all_goals (with_reducible rfl))
                try simp only [Act.put, List.setIfInBounds_toArray, List.set_cons_zero, List.set_cons_succ]
                refine wpAnyH_take (i := 4) (oi := ?oi_k5) (v := ?v_k5) ?hi_k5 (by kernel_rfl) ?hf_k5 ?hr_k5 ?hQ_k5 (Or.inl ⟨?hw_k5, ?hy_k5⟩) (by assumption) ?rest_k5
                case hi_k5 => ((simp only [List.getElem?_toArray, List.getElem?_cons_succ, List.getElem?_cons_zero]); rfl)
                case hf_k5 => kernel_rfl
                case hr_k5 => kernel_rfl
                case hQ_k5 => exact fun _ _ _ h => h
                case hw_k5 => rfl
                case hy_k5 => ((intro w hSw; (try dsimp only at hSw); go_simp); all_goals (with_reducible rfl))
                try simp only [Act.put, List.setIfInBounds_toArray, List.set_cons_zero, List.set_cons_succ]
                refine wpAnyH_take (i := 5) (oi := ?oi_k6) (v := ?v_k6) ?hi_k6 (by kernel_rfl) ?hf_k6 ?hr_k6 ?hQ_k6 (Or.inl ⟨?hw_k6, ?hy_k6⟩) (by assumption) ?rest_k6
                case hi_k6 => ((simp only [List.getElem?_toArray, List.getElem?_cons_succ, List.getElem?_cons_zero]); rfl)
                case hf_k6 => kernel_rfl
                case hr_k6 => kernel_rfl
                case hQ_k6 => exact fun _ _ _ h => h
                case hw_k6 => rfl
                case hy_k6 => ((intro w hSw; (try dsimp only at hSw); have c2w := c2b _ hSw; go_simp); all_goals (with_reducible rfl))
                try simp only [Act.put, List.setIfInBounds_toArray, List.set_cons_zero, List.set_cons_succ]
                refine wpAnyH_take (i := 6) (oi := ?oi_k7) (v := ?v_k7) ?hi_k7 (by kernel_rfl) ?hf_k7 ?hr_k7 ?hQ_k7 (Or.inl ⟨?hw_k7, ?hy_k7⟩) (by assumption) ?rest_k7
                case hi_k7 => ((simp only [List.getElem?_toArray, List.getElem?_cons_succ, List.getElem?_cons_zero]); rfl)
                case hf_k7 => kernel_rfl
                case hr_k7 => kernel_rfl
                case hQ_k7 => exact fun _ _ _ h => h
                case hw_k7 => rfl
                case hy_k7 => ((intro w hSw; (try dsimp only at hSw); have y0w := y0 _ hSw; have y1w := y1 _ hSw; have y2w := y2 _ hSw; have y3w := y3 _ hSw; go_simp); all_goals (with_reducible rfl))
                try simp only [Act.put, List.setIfInBounds_toArray, List.set_cons_zero, List.set_cons_succ]
                refine wpAnyH_ready (rs := [7]) (by kernel_rfl) (by simp) ?_
                refine AllReadyH.cons (o := ?o1_k8) ?hi_k8 (fun K hK => ?rest_k8) AllReadyH.nil
                case hi_k8 => ((simp only [List.getElem?_toArray, List.getElem?_cons_succ, List.getElem?_cons_zero]); rfl)
                go_simp
                (go_at_call 12; (with_reducible refine (CL.out _).mono ?_); rintro e9 w6 ⟨hrl, hb6⟩; obtain ⟨t9, rfl⟩ := rln_no' hln hrl; clear hrl)
                try go_simp
                refine hK.out _ _ (by exact (show Below wb.heap.size wb _ by repeat (first | assumption | exact Below.refl _ _ | refine belDrew ?_ | refine belAlloc ?_ _ | refine belStep ?_ (by assumption)))) (fun hHeld => ?_)
                clear hK K
                try simp only [Act.put, List.setIfInBounds_toArray, List.set_cons_zero, List.set_cons_succ]
                refine wpAnyH_take (i := 8) (oi := ?oi_k9) (v := ?v_k9) ?hi_k9 (by kernel_rfl) ?hf_k9 ?hr_k9 ?hQ_k9 (Or.inl ⟨?hw_k9, ?hy_k9⟩) (by assumption) ?rest_k9
                case hi_k9 => ((simp only [List.getElem?_toArray, List.getElem?_cons_succ, List.getElem?_cons_zero]); rfl)
                case hf_k9 => kernel_rfl
                case hr_k9 => kernel_rfl
                case hQ_k9 => exact fun _ _ _ h => h
                case hw_k9 => rfl
                case hy_k9 => ((intro w hSw; (try dsimp only at hSw); go_simp); all_goals (with_reducible rfl))
                try simp only [Act.put, List.setIfInBounds_toArray, List.set_cons_zero, List.set_cons_succ]
                refine wpAnyH_take (i := 9) (oi := ?oi_k10) (v := ?v_k10) ?hi_k10 (by kernel_rfl) ?hf_k10 ?hr_k10 ?hQ_k10 (Or.inl ⟨?hw_k10, ?hy_k10⟩) (by assumption) ?rest_k10
                case hi_k10 => ((simp only [List.getElem?_toArray, List.getElem?_cons_succ, List.getElem?_cons_zero]); rfl)
                case hf_k10 => kernel_rfl
                case hr_k10 => kernel_rfl
                case hQ_k10 => exact fun _ _ _ h => h
                case hw_k10 => rfl
                case hy_k10 => ((intro w hSw; (try dsimp only at hSw); go_simp); all_goals (with_reducible rfl))
                try simp only [Act.put, List.setIfInBounds_toArray, List.set_cons_zero, List.set_cons_succ]
                refine wpAnyH_take (i := 10) (oi := ?oi_k11) (v := ?v_k11) ?hi_k11 (by kernel_rfl) ?hf_k11 ?hr_k11 ?hQ_k11 (Or.inl ⟨?hw_k11, ?hy_k11⟩) (by assumption) ?rest_k11
                case hi_k11 => ((simp only [List.getElem?_toArray, List.getElem?_cons_succ, List.getElem?_cons_zero]); rfl)
                case hf_k11 => kernel_rfl
                case hr_k11 => kernel_rfl
                case hQ_k11 => exact fun _ _ _ h => h
                case hw_k11 => rfl
                case hy_k11 => ((intro w hSw; (try dsimp only at hSw); go_simp); all_goals (with_reducible rfl))
                try simp only [Act.put, List.setIfInBounds_toArray, List.set_cons_zero, List.set_cons_succ]
                refine wpAnyH_take (i := 11) (oi := ?oi_k12) (v := ?v_k12) ?hi_k12 (by kernel_rfl) ?hf_k12 ?hr_k12 ?hQ_k12 (Or.inl ⟨?hw_k12, ?hy_k12⟩) (by assumption) ?rest_k12
                case hi_k12 => ((simp only [List.getElem?_toArray, List.getElem?_cons_succ, List.getElem?_cons_zero]); rfl)
                case hf_k12 => kernel_rfl
                case hr_k12 => kernel_rfl
                case hQ_k12 => exact fun _ _ _ h => h
                case hw_k12 => rfl
                case hy_k12 => ((intro w hSw; (try dsimp only at hSw); go_simp); all_goals (with_reducible rfl))
                try simp only [Act.put, List.setIfInBounds_toArray, List.set_cons_zero, List.set_cons_succ]
                refine wpAnyH_take (i := 12) (oi := ?oi_k13) (v := ?v_k13) ?hi_k13 (by kernel_rfl) ?hf_k13 ?hr_k13 ?hQ_k13 (Or.inl ⟨?hw_k13, ?hy_k13⟩) (by assumption) ?rest_k13
                case hi_k13 => ((simp only [List.getElem?_toArray, List.getElem?_cons_succ, List.getElem?_cons_zero]); rfl)
                case hf_k13 => kernel_rfl
                case hr_k13 => kernel_rfl
                case hQ_k13 => exact fun _ _ _ h => h
                case hw_k13 => rfl
                case hy_k13 => ((intro w hSw; (try dsimp only at hSw); go_simp); all_goals (with_reducible rfl))
                try simp only [Act.put, List.setIfInBounds_toArray, List.set_cons_zero, List.set_cons_succ]
                refine wpAnyH_done (by kernel_rfl) ?_ _
                clear y0 y1 y2 y3 c2b CL
                have HB6 := Lib.hid (belStep HBb.out hHeld)
                have HC6 := Lib.hid (HCb.out.later hHeld)
                have HY6 := Lib.hid (HYb.out.later hHeld)
                have HO6 := Lib.hid (OwnR.later HOb.out hHeld)
                clear HBb HCb HYb HOb hHeld hbel
                cases gd
                · as_aux_lemma =>
                    have HG9 := Lib.hid (fun t => good_no (t := t) HP.out hln)
                    clear hln
                    have hRl := HP.out.1
                    have hl9 := HLI.out
                    rw [List.length_append] at hl9
                    have hl3 : (evsOf L).length ≤ 1200 := HT.out.2.2
                    have hl4 : R.length ≤ 1200 := by simp at hl9; omega
                    clear hRl hl9 hl3
                    have HOc := Lib.hid (OwnR.alloc HO6.out (.cells #[.string t9] 9))
                    have HRX := Lib.hid (row_new w6 [.string t9] 9 1 1 rfl (by unfold maxLen; omega))
                    go_wp2_with (at_builtin; (refine wpList_app_row rfl _ _ 41 rfl W.heap.size 9 _ 1 16 Tryd.underlying41 info_strL rfl (by decide) _ _ _ rfl HOc.out _ 1 1 [.string t9] rfl HRX.out (str_oneW t9) ?c1 ?c2 ?c3 ?_))
                    case c1 => simp only [maxLen]; omega
                    case c2 => omega
                    case c3 => have := HB6.out.size; simp; omega
                    intro v' w7 ho' hb' hg'
                    have HO7 := Lib.hid (own_snocM (enc := Value.string) ho')
                    have HB7 := Lib.hid ((belAlloc HB6.out (.cells #[.string t9] 9)).trans hb')
                    have HC7 := Lib.hid (Blk.grownL (HC6.out.later (belAlloc (Below.refl _ _) (.cells #[.string t9] 9))) hg' (own_neW HOc.out (HC6.out.later (belAlloc (Below.refl _ _) (.cells #[.string t9] 9))) (by decide)))
                    have HY7 := Lib.hid (Blk.grownL (HY6.out.later (belAlloc (Below.refl _ _) (.cells #[.string t9] 9))) hg' (own_neW HOc.out (HY6.out.later (belAlloc (Below.refl _ _) (.cells #[.string t9] 9))) (by decide)))
                    clear ho' hb' hg' HO6 HB6 HC6 HY6 HOc HRX
                    have y0 := HY7.out.cell (j := 0) rfl
                    by_cases hkn : 0 < y.kind ∧ y.kind < 17
                    · have t6 : decide ((0 : Int) < y.kind) = true := decide_eq_true hkn.1
                      have t7 : decide (y.kind < (17 : Int)) = true := decide_eq_true hkn.2
                      have HH := Lib.hid (cntL_hit N (x.round, y) hkn)
                      have hcl := HC7.out.cell (cntL_at N (k := y.kind.toNat) (by omega))
                      rw [if_neg (show ¬ y.kind.toNat = 0 by omega), show ((y.kind.toNat : Nat) : Int) = y.kind by omega] at hcl
                      have hfr := HC7.out.frozen
                      have hcn := cntK_le N y.kind
                      have hNl : N.length ≤ 1000000 := by have h1 := HLI.out; have h2 := HT.out.2.2; rw [List.length_append] at h1; simp at h1; omega
                      obtain ⟨hk1, hk2⟩ := hkn
                      generalize hcz : cntK N y.kind = cz at *
                      go_wp2
                      have hA9 := HC7.out.set y.kind.toNat (.int .i64 ((cz : Int) + 1))
                      rw [show (cntL N).set y.kind.toNat (.int .i64 ((cz : Int) + 1)) = cntL (N ++ [(x.round, y)]) from HH.out, ← HN.out] at hA9
                      have hO9 := own_blkW HO7.out HC7.out (by decide) y.kind.toNat (.int .i64 ((cz : Int) + 1))
                      have hB9 := belLow6 HB7.out ⟨qc, y.kind.toNat, none⟩ (.int .i64 ((cz : Int) + 1)) hqc
                      go_roundw
                      case rel => exact ⟨j + 1, false, R ++ [t9], by omega, by push_cast; rfl, rfl, hO9, Lib.hid (by rw [HN.out]; exact HG9.out _), Lib.hid hA9, Lib.hid hB9⟩
                      case measure => simp [intOf] <;> omega
                    · by_cases hk0 : 0 < y.kind
                      · have t6 : decide ((0 : Int) < y.kind) = true := decide_eq_true hk0
                        have t7 : decide (y.kind < (17 : Int)) = false := decide_eq_false (by omega)
                        have HH := Lib.hid (cntL_miss N (x.round, y) hkn)
                        clear hkn
                        go_wp2
                        go_roundw
                        case rel => exact ⟨j + 1, false, R ++ [t9], by omega, by push_cast; rfl, rfl, HO7.out, Lib.hid (by rw [HN.out]; exact HG9.out _), by rw [HN.out, HH.out]; exact HC7, HB7⟩
                        case measure => simp [intOf] <;> omega
                      · have t6 : decide ((0 : Int) < y.kind) = false := decide_eq_false hk0
                        have HH := Lib.hid (cntL_miss N (x.round, y) hkn)
                        clear hkn
                        go_wp2
                        go_roundw
                        case rel => exact ⟨j + 1, false, R ++ [t9], by omega, by push_cast; rfl, rfl, HO7.out, Lib.hid (by rw [HN.out]; exact HG9.out _), by rw [HN.out, HH.out]; exact HC7, HB7⟩
                        case measure => simp [intOf] <;> omega
                · as_aux_lemma =>
                    have HG9 := Lib.hid (fun t => good_no (t := t) HP.out hln)
                    clear hln
                    have hRl := HP.out.1
                    have hl9 := HLI.out
                    rw [List.length_append] at hl9
                    have hl3 : (evsOf L).length ≤ 1200 := HT.out.2.2
                    have hl4 : R.length ≤ 1200 := by simp at hl9; omega
                    clear hRl hl9 hl3
                    have HOc := Lib.hid (OwnR.alloc HO6.out (.cells #[.string t9] 9))
                    have HRX := Lib.hid (row_new w6 [.string t9] 9 1 1 rfl (by unfold maxLen; omega))
                    go_wp2_with (at_builtin; (refine wpList_app_row rfl _ _ 41 rfl W.heap.size 9 _ 1 16 Tryd.underlying41 info_strL rfl (by decide) _ _ _ rfl HOc.out _ 1 1 [.string t9] rfl HRX.out (str_oneW t9) ?c1 ?c2 ?c3 ?_))
                    case c1 => simp only [maxLen]; omega
                    case c2 => omega
                    case c3 => have := HB6.out.size; simp; omega
                    intro v' w7 ho' hb' hg'
                    have HO7 := Lib.hid (own_snocM (enc := Value.string) ho')
                    have HB7 := Lib.hid ((belAlloc HB6.out (.cells #[.string t9] 9)).trans hb')
                    have HC7 := Lib.hid (Blk.grownL (HC6.out.later (belAlloc (Below.refl _ _) (.cells #[.string t9] 9))) hg' (own_neW HOc.out (HC6.out.later (belAlloc (Below.refl _ _) (.cells #[.string t9] 9))) (by decide)))
                    have HY7 := Lib.hid (Blk.grownL (HY6.out.later (belAlloc (Below.refl _ _) (.cells #[.string t9] 9))) hg' (own_neW HOc.out (HY6.out.later (belAlloc (Below.refl _ _) (.cells #[.string t9] 9))) (by decide)))
                    clear ho' hb' hg' HO6 HB6 HC6 HY6 HOc HRX
                    have y0 := HY7.out.cell (j := 0) rfl
                    by_cases hkn : 0 < y.kind ∧ y.kind < 17
                    · have t6 : decide ((0 : Int) < y.kind) = true := decide_eq_true hkn.1
                      have t7 : decide (y.kind < (17 : Int)) = true := decide_eq_true hkn.2
                      have HH := Lib.hid (cntL_hit N (x.round, y) hkn)
                      have hcl := HC7.out.cell (cntL_at N (k := y.kind.toNat) (by omega))
                      rw [if_neg (show ¬ y.kind.toNat = 0 by omega), show ((y.kind.toNat : Nat) : Int) = y.kind by omega] at hcl
                      have hfr := HC7.out.frozen
                      have hcn := cntK_le N y.kind
                      have hNl : N.length ≤ 1000000 := by have h1 := HLI.out; have h2 := HT.out.2.2; rw [List.length_append] at h1; simp at h1; omega
                      obtain ⟨hk1, hk2⟩ := hkn
                      generalize hcz : cntK N y.kind = cz at *
                      go_wp2
                      have hA9 := HC7.out.set y.kind.toNat (.int .i64 ((cz : Int) + 1))
                      rw [show (cntL N).set y.kind.toNat (.int .i64 ((cz : Int) + 1)) = cntL (N ++ [(x.round, y)]) from HH.out, ← HN.out] at hA9
                      have hO9 := own_blkW HO7.out HC7.out (by decide) y.kind.toNat (.int .i64 ((cz : Int) + 1))
                      have hB9 := belLow6 HB7.out ⟨qc, y.kind.toNat, none⟩ (.int .i64 ((cz : Int) + 1)) hqc
                      go_roundw
                      case rel => exact ⟨j + 1, false, R ++ [t9], by omega, by push_cast; rfl, rfl, hO9, Lib.hid (by rw [HN.out]; exact HG9.out _), Lib.hid hA9, Lib.hid hB9⟩
                      case measure => simp [intOf] <;> omega
                    · by_cases hk0 : 0 < y.kind
                      · have t6 : decide ((0 : Int) < y.kind) = true := decide_eq_true hk0
                        have t7 : decide (y.kind < (17 : Int)) = false := decide_eq_false (by omega)
                        have HH := Lib.hid (cntL_miss N (x.round, y) hkn)
                        clear hkn
                        go_wp2
                        go_roundw
                        case rel => exact ⟨j + 1, false, R ++ [t9], by omega, by push_cast; rfl, rfl, HO7.out, Lib.hid (by rw [HN.out]; exact HG9.out _), by rw [HN.out, HH.out]; exact HC7, HB7⟩
                        case measure => simp [intOf] <;> omega
                      · have t6 : decide ((0 : Int) < y.kind) = false := decide_eq_false hk0
                        have HH := Lib.hid (cntL_miss N (x.round, y) hkn)
                        clear hkn
                        go_wp2
                        go_roundw
                        case rel => exact ⟨j + 1, false, R ++ [t9], by omega, by push_cast; rfl, rfl, HO7.out, Lib.hid (by rw [HN.out]; exact HG9.out _), by rw [HN.out, HH.out]; exact HC7, HB7⟩
                        case measure => simp [intOf] <;> omega
            | some s =>
              as_aux_lemma =>
                refine wp_region_held_drew (S := fun u => Below wb.heap.size wb u) (by kernel_rfl) (by exact (show Below wb.heap.size wb _ by repeat (first | assumption | exact Below.refl _ _ | refine belDrew ?_ | refine belAlloc ?_ _ | refine belStep ?_ (by assumption)))) (fun hHeld => ?_)
                refine wpAnyH_take (i := 0) (oi := ?oi_k14) (v := ?v_k14) ?hi_k14 (by kernel_rfl) ?hf_k14 ?hr_k14 ?hQ_k14 (Or.inl ⟨?hw_k14, ?hy_k14⟩) (by assumption) ?rest_k14
                case hi_k14 => ((simp only [List.getElem?_toArray, List.getElem?_cons_succ, List.getElem?_cons_zero]); rfl)
                case hf_k14 => kernel_rfl
                case hr_k14 => kernel_rfl
                case hQ_k14 => exact fun _ _ _ h => h
                case hw_k14 => rfl
                case hy_k14 => ((intro w hSw; (try dsimp only at hSw); go_simp); all_goals (with_reducible rfl))
                try simp only [Act.put, List.setIfInBounds_toArray, List.set_cons_zero, List.set_cons_succ]
                refine wpAnyH_take (i := 1) (oi := ?oi_k15) (v := ?v_k15) ?hi_k15 (by kernel_rfl) ?hf_k15 ?hr_k15 ?hQ_k15 (Or.inl ⟨?hw_k15, ?hy_k15⟩) (by assumption) ?rest_k15
                case hi_k15 => ((simp only [List.getElem?_toArray, List.getElem?_cons_succ, List.getElem?_cons_zero]); rfl)
                case hf_k15 => kernel_rfl
                case hr_k15 => kernel_rfl
                case hQ_k15 => exact fun _ _ _ h => h
                case hw_k15 => rfl
                case hy_k15 => ((intro w hSw; (try dsimp only at hSw); go_simp); all_goals (with_reducible rfl))
                try simp only [Act.put, List.setIfInBounds_toArray, List.set_cons_zero, List.set_cons_succ]
                refine wpAnyH_take (i := 2) (oi := ?oi_k16) (v := ?v_k16) ?hi_k16 (by kernel_rfl) ?hf_k16 ?hr_k16 ?hQ_k16 (Or.inl ⟨?hw_k16, ?hy_k16⟩) (by assumption) ?rest_k16
                case hi_k16 => ((simp only [List.getElem?_toArray, List.getElem?_cons_succ, List.getElem?_cons_zero]); rfl)
                case hf_k16 => kernel_rfl
                case hr_k16 => kernel_rfl
                case hQ_k16 => exact fun _ _ _ h => h
                case hw_k16 => rfl
                case hy_k16 => ((intro w hSw; (try dsimp only at hSw); go_simp); all_goals (with_reducible rfl))
                try simp only [Act.put, List.setIfInBounds_toArray, List.set_cons_zero, List.set_cons_succ]
                refine wpAnyH_take (i := 3) (oi := ?oi_k17) (v := ?v_k17) ?hi_k17 (by kernel_rfl) ?hf_k17 ?hr_k17 ?hQ_k17 (Or.inl ⟨?hw_k17, ?hy_k17⟩) (by assumption) ?rest_k17
                case hi_k17 => ((simp only [List.getElem?_toArray, List.getElem?_cons_succ, List.getElem?_cons_zero]); rfl)
                case hf_k17 => kernel_rfl
                case hr_k17 => kernel_rfl
                case hQ_k17 => exact fun _ _ _ h => h
                case hw_k17 => rfl
                case hy_k17 => ((intro w hSw; (try dsimp only at hSw); go_simp); all_goals (with_reducible rfl))
                try simp only [Act.put, List.setIfInBounds_toArray, List.set_cons_zero, List.set_cons_succ]
                refine wpAnyH_take (i := 4) (oi := ?oi_k18) (v := ?v_k18) ?hi_k18 (by kernel_rfl) ?hf_k18 ?hr_k18 ?hQ_k18 (Or.inl ⟨?hw_k18, ?hy_k18⟩) (by assumption) ?rest_k18
                case hi_k18 => ((simp only [List.getElem?_toArray, List.getElem?_cons_succ, List.getElem?_cons_zero]); rfl)
                case hf_k18 => kernel_rfl
                case hr_k18 => kernel_rfl
                case hQ_k18 => exact fun _ _ _ h => h
                case hw_k18 => rfl
                case hy_k18 => ((intro w hSw; (try dsimp only at hSw); go_simp); all_goals (with_reducible rfl))
                try simp only [Act.put, List.setIfInBounds_toArray, List.set_cons_zero, List.set_cons_succ]
                refine wpAnyH_take (i := 5) (oi := ?oi_k19) (v := ?v_k19) ?hi_k19 (by kernel_rfl) ?hf_k19 ?hr_k19 ?hQ_k19 (Or.inl ⟨?hw_k19, ?hy_k19⟩) (by assumption) ?rest_k19
                case hi_k19 => ((simp only [List.getElem?_toArray, List.getElem?_cons_succ, List.getElem?_cons_zero]); rfl)
                case hf_k19 => kernel_rfl
                case hr_k19 => kernel_rfl
                case hQ_k19 => exact fun _ _ _ h => h
                case hw_k19 => rfl
                case hy_k19 => ((intro w hSw; (try dsimp only at hSw); have c2w := c2b _ hSw; go_simp); all_goals (with_reducible rfl))
                try simp only [Act.put, List.setIfInBounds_toArray, List.set_cons_zero, List.set_cons_succ]
                refine wpAnyH_take (i := 6) (oi := ?oi_k20) (v := ?v_k20) ?hi_k20 (by kernel_rfl) ?hf_k20 ?hr_k20 ?hQ_k20 (Or.inl ⟨?hw_k20, ?hy_k20⟩) (by assumption) ?rest_k20
                case hi_k20 => ((simp only [List.getElem?_toArray, List.getElem?_cons_succ, List.getElem?_cons_zero]); rfl)
                case hf_k20 => kernel_rfl
                case hr_k20 => kernel_rfl
                case hQ_k20 => exact fun _ _ _ h => h
                case hw_k20 => rfl
                case hy_k20 => ((intro w hSw; (try dsimp only at hSw); have y0w := y0 _ hSw; have y1w := y1 _ hSw; have y2w := y2 _ hSw; have y3w := y3 _ hSw; go_simp); all_goals (with_reducible rfl))
                try simp only [Act.put, List.setIfInBounds_toArray, List.set_cons_zero, List.set_cons_succ]
                refine wpAnyH_ready (rs := [7]) (by kernel_rfl) (by simp) ?_
                refine AllReadyH.cons (o := ?o1_k21) ?hi_k21 (fun K hK => ?rest_k21) AllReadyH.nil
                case hi_k21 => ((simp only [List.getElem?_toArray, List.getElem?_cons_succ, List.getElem?_cons_zero]); rfl)
                go_simp
                (go_at_call 12; (with_reducible refine (CL.out _).mono ?_); rintro e9 w6 ⟨hrl, hb6⟩; have e9r := rln_yes' hln hrl; subst e9r; clear hrl)
                try go_simp
                refine hK.out _ _ (by exact (show Below wb.heap.size wb _ by repeat (first | assumption | exact Below.refl _ _ | refine belDrew ?_ | refine belAlloc ?_ _ | refine belStep ?_ (by assumption)))) (fun hHeld => ?_)
                clear hK K
                try simp only [Act.put, List.setIfInBounds_toArray, List.set_cons_zero, List.set_cons_succ]
                refine wpAnyH_take (i := 8) (oi := ?oi_k22) (v := ?v_k22) ?hi_k22 (by kernel_rfl) ?hf_k22 ?hr_k22 ?hQ_k22 (Or.inl ⟨?hw_k22, ?hy_k22⟩) (by assumption) ?rest_k22
                case hi_k22 => ((simp only [List.getElem?_toArray, List.getElem?_cons_succ, List.getElem?_cons_zero]); rfl)
                case hf_k22 => kernel_rfl
                case hr_k22 => kernel_rfl
                case hQ_k22 => exact fun _ _ _ h => h
                case hw_k22 => rfl
                case hy_k22 => ((intro w hSw; (try dsimp only at hSw); go_simp); all_goals (with_reducible rfl))
                try simp only [Act.put, List.setIfInBounds_toArray, List.set_cons_zero, List.set_cons_succ]
                refine wpAnyH_take (i := 9) (oi := ?oi_k23) (v := ?v_k23) ?hi_k23 (by kernel_rfl) ?hf_k23 ?hr_k23 ?hQ_k23 (Or.inl ⟨?hw_k23, ?hy_k23⟩) (by assumption) ?rest_k23
                case hi_k23 => ((simp only [List.getElem?_toArray, List.getElem?_cons_succ, List.getElem?_cons_zero]); rfl)
                case hf_k23 => kernel_rfl
                case hr_k23 => kernel_rfl
                case hQ_k23 => exact fun _ _ _ h => h
                case hw_k23 => rfl
                case hy_k23 => ((intro w hSw; (try dsimp only at hSw); go_simp); all_goals (with_reducible rfl))
                try simp only [Act.put, List.setIfInBounds_toArray, List.set_cons_zero, List.set_cons_succ]
                refine wpAnyH_take (i := 10) (oi := ?oi_k24) (v := ?v_k24) ?hi_k24 (by kernel_rfl) ?hf_k24 ?hr_k24 ?hQ_k24 (Or.inl ⟨?hw_k24, ?hy_k24⟩) (by assumption) ?rest_k24
                case hi_k24 => ((simp only [List.getElem?_toArray, List.getElem?_cons_succ, List.getElem?_cons_zero]); rfl)
                case hf_k24 => kernel_rfl
                case hr_k24 => kernel_rfl
                case hQ_k24 => exact fun _ _ _ h => h
                case hw_k24 => rfl
                case hy_k24 => ((intro w hSw; (try dsimp only at hSw); go_simp); all_goals (with_reducible rfl))
                try simp only [Act.put, List.setIfInBounds_toArray, List.set_cons_zero, List.set_cons_succ]
                refine wpAnyH_take (i := 11) (oi := ?oi_k25) (v := ?v_k25) ?hi_k25 (by kernel_rfl) ?hf_k25 ?hr_k25 ?hQ_k25 (Or.inl ⟨?hw_k25, ?hy_k25⟩) (by assumption) ?rest_k25
                case hi_k25 => ((simp only [List.getElem?_toArray, List.getElem?_cons_succ, List.getElem?_cons_zero]); rfl)
                case hf_k25 => kernel_rfl
                case hr_k25 => kernel_rfl
                case hQ_k25 => exact fun _ _ _ h => h
                case hw_k25 => rfl
                case hy_k25 => ((intro w hSw; (try dsimp only at hSw); go_simp); all_goals (with_reducible rfl))
                try simp only [Act.put, List.setIfInBounds_toArray, List.set_cons_zero, List.set_cons_succ]
                refine wpAnyH_take (i := 12) (oi := ?oi_k26) (v := ?v_k26) ?hi_k26 (by kernel_rfl) ?hf_k26 ?hr_k26 ?hQ_k26 (Or.inl ⟨?hw_k26, ?hy_k26⟩) (by assumption) ?rest_k26
                case hi_k26 => ((simp only [List.getElem?_toArray, List.getElem?_cons_succ, List.getElem?_cons_zero]); rfl)
                case hf_k26 => kernel_rfl
                case hr_k26 => kernel_rfl
                case hQ_k26 => exact fun _ _ _ h => h
                case hw_k26 => rfl
                case hy_k26 => ((intro w hSw; (try dsimp only at hSw); go_simp); all_goals (with_reducible rfl))
                try simp only [Act.put, List.setIfInBounds_toArray, List.set_cons_zero, List.set_cons_succ]
                refine wpAnyH_done (by kernel_rfl) ?_ _
                clear y0 y1 y2 y3 c2b CL
                have HB6 := Lib.hid (belStep HBb.out hHeld)
                have HC6 := Lib.hid (HCb.out.later hHeld)
                have HY6 := Lib.hid (HYb.out.later hHeld)
                have HO6 := Lib.hid (OwnR.later HOb.out hHeld)
                clear HBb HCb HYb HOb hHeld hbel
                cases gd
                · as_aux_lemma =>
                    have HG9 := Lib.hid (good_yes HP.out hln)
                    clear hln
                    have hRl := HP.out.1
                    have hl9 := HLI.out
                    rw [List.length_append] at hl9
                    have hl3 : (evsOf L).length ≤ 1200 := HT.out.2.2
                    have hl4 : R.length ≤ 1200 := by simp at hl9; omega
                    clear hRl hl9 hl3
                    have HOc := Lib.hid (OwnR.alloc HO6.out (.cells #[.string (bA s)] 9))
                    have HRX := Lib.hid (row_new w6 [.string (bA s)] 9 1 1 rfl (by unfold maxLen; omega))
                    go_wp2_with (at_builtin; (refine wpList_app_row rfl _ _ 41 rfl W.heap.size 9 _ 1 16 Tryd.underlying41 info_strL rfl (by decide) _ _ _ rfl HOc.out _ 1 1 [.string (bA s)] rfl HRX.out (str_oneW (bA s)) ?c1 ?c2 ?c3 ?_))
                    case c1 => simp only [maxLen]; omega
                    case c2 => omega
                    case c3 => have := HB6.out.size; simp; omega
                    intro v' w7 ho' hb' hg'
                    have HO7 := Lib.hid (own_snocM (enc := Value.string) ho')
                    have HB7 := Lib.hid ((belAlloc HB6.out (.cells #[.string (bA s)] 9)).trans hb')
                    have HC7 := Lib.hid (Blk.grownL (HC6.out.later (belAlloc (Below.refl _ _) (.cells #[.string (bA s)] 9))) hg' (own_neW HOc.out (HC6.out.later (belAlloc (Below.refl _ _) (.cells #[.string (bA s)] 9))) (by decide)))
                    have HY7 := Lib.hid (Blk.grownL (HY6.out.later (belAlloc (Below.refl _ _) (.cells #[.string (bA s)] 9))) hg' (own_neW HOc.out (HY6.out.later (belAlloc (Below.refl _ _) (.cells #[.string (bA s)] 9))) (by decide)))
                    clear ho' hb' hg' HO6 HB6 HC6 HY6 HOc HRX
                    have y0 := HY7.out.cell (j := 0) rfl
                    by_cases hkn : 0 < y.kind ∧ y.kind < 17
                    · have t6 : decide ((0 : Int) < y.kind) = true := decide_eq_true hkn.1
                      have t7 : decide (y.kind < (17 : Int)) = true := decide_eq_true hkn.2
                      have HH := Lib.hid (cntL_hit N (x.round, y) hkn)
                      have hcl := HC7.out.cell (cntL_at N (k := y.kind.toNat) (by omega))
                      rw [if_neg (show ¬ y.kind.toNat = 0 by omega), show ((y.kind.toNat : Nat) : Int) = y.kind by omega] at hcl
                      have hfr := HC7.out.frozen
                      have hcn := cntK_le N y.kind
                      have hNl : N.length ≤ 1000000 := by have h1 := HLI.out; have h2 := HT.out.2.2; rw [List.length_append] at h1; simp at h1; omega
                      obtain ⟨hk1, hk2⟩ := hkn
                      generalize hcz : cntK N y.kind = cz at *
                      go_wp2
                      have hA9 := HC7.out.set y.kind.toNat (.int .i64 ((cz : Int) + 1))
                      rw [show (cntL N).set y.kind.toNat (.int .i64 ((cz : Int) + 1)) = cntL (N ++ [(x.round, y)]) from HH.out, ← HN.out] at hA9
                      have hO9 := own_blkW HO7.out HC7.out (by decide) y.kind.toNat (.int .i64 ((cz : Int) + 1))
                      have hB9 := belLow6 HB7.out ⟨qc, y.kind.toNat, none⟩ (.int .i64 ((cz : Int) + 1)) hqc
                      go_roundw
                      case rel => exact ⟨j + 1, false, R ++ [(bA s)], by omega, by push_cast; rfl, rfl, hO9, Lib.hid (by rw [HN.out]; exact HG9.out), Lib.hid hA9, Lib.hid hB9⟩
                      case measure => simp [intOf] <;> omega
                    · by_cases hk0 : 0 < y.kind
                      · have t6 : decide ((0 : Int) < y.kind) = true := decide_eq_true hk0
                        have t7 : decide (y.kind < (17 : Int)) = false := decide_eq_false (by omega)
                        have HH := Lib.hid (cntL_miss N (x.round, y) hkn)
                        clear hkn
                        go_wp2
                        go_roundw
                        case rel => exact ⟨j + 1, false, R ++ [(bA s)], by omega, by push_cast; rfl, rfl, HO7.out, Lib.hid (by rw [HN.out]; exact HG9.out), by rw [HN.out, HH.out]; exact HC7, HB7⟩
                        case measure => simp [intOf] <;> omega
                      · have t6 : decide ((0 : Int) < y.kind) = false := decide_eq_false hk0
                        have HH := Lib.hid (cntL_miss N (x.round, y) hkn)
                        clear hkn
                        go_wp2
                        go_roundw
                        case rel => exact ⟨j + 1, false, R ++ [(bA s)], by omega, by push_cast; rfl, rfl, HO7.out, Lib.hid (by rw [HN.out]; exact HG9.out), by rw [HN.out, HH.out]; exact HC7, HB7⟩
                        case measure => simp [intOf] <;> omega
                · as_aux_lemma =>
                    have HG9 := Lib.hid (good_yes HP.out hln)
                    clear hln
                    have hRl := HP.out.1
                    have hl9 := HLI.out
                    rw [List.length_append] at hl9
                    have hl3 : (evsOf L).length ≤ 1200 := HT.out.2.2
                    have hl4 : R.length ≤ 1200 := by simp at hl9; omega
                    clear hRl hl9 hl3
                    have HOc := Lib.hid (OwnR.alloc HO6.out (.cells #[.string (bA s)] 9))
                    have HRX := Lib.hid (row_new w6 [.string (bA s)] 9 1 1 rfl (by unfold maxLen; omega))
                    go_wp2_with (at_builtin; (refine wpList_app_row rfl _ _ 41 rfl W.heap.size 9 _ 1 16 Tryd.underlying41 info_strL rfl (by decide) _ _ _ rfl HOc.out _ 1 1 [.string (bA s)] rfl HRX.out (str_oneW (bA s)) ?c1 ?c2 ?c3 ?_))
                    case c1 => simp only [maxLen]; omega
                    case c2 => omega
                    case c3 => have := HB6.out.size; simp; omega
                    intro v' w7 ho' hb' hg'
                    have HO7 := Lib.hid (own_snocM (enc := Value.string) ho')
                    have HB7 := Lib.hid ((belAlloc HB6.out (.cells #[.string (bA s)] 9)).trans hb')
                    have HC7 := Lib.hid (Blk.grownL (HC6.out.later (belAlloc (Below.refl _ _) (.cells #[.string (bA s)] 9))) hg' (own_neW HOc.out (HC6.out.later (belAlloc (Below.refl _ _) (.cells #[.string (bA s)] 9))) (by decide)))
                    have HY7 := Lib.hid (Blk.grownL (HY6.out.later (belAlloc (Below.refl _ _) (.cells #[.string (bA s)] 9))) hg' (own_neW HOc.out (HY6.out.later (belAlloc (Below.refl _ _) (.cells #[.string (bA s)] 9))) (by decide)))
                    clear ho' hb' hg' HO6 HB6 HC6 HY6 HOc HRX
                    have y0 := HY7.out.cell (j := 0) rfl
                    by_cases hkn : 0 < y.kind ∧ y.kind < 17
                    · have t6 : decide ((0 : Int) < y.kind) = true := decide_eq_true hkn.1
                      have t7 : decide (y.kind < (17 : Int)) = true := decide_eq_true hkn.2
                      have HH := Lib.hid (cntL_hit N (x.round, y) hkn)
                      have hcl := HC7.out.cell (cntL_at N (k := y.kind.toNat) (by omega))
                      rw [if_neg (show ¬ y.kind.toNat = 0 by omega), show ((y.kind.toNat : Nat) : Int) = y.kind by omega] at hcl
                      have hfr := HC7.out.frozen
                      have hcn := cntK_le N y.kind
                      have hNl : N.length ≤ 1000000 := by have h1 := HLI.out; have h2 := HT.out.2.2; rw [List.length_append] at h1; simp at h1; omega
                      obtain ⟨hk1, hk2⟩ := hkn
                      generalize hcz : cntK N y.kind = cz at *
                      go_wp2
                      have hA9 := HC7.out.set y.kind.toNat (.int .i64 ((cz : Int) + 1))
                      rw [show (cntL N).set y.kind.toNat (.int .i64 ((cz : Int) + 1)) = cntL (N ++ [(x.round, y)]) from HH.out, ← HN.out] at hA9
                      have hO9 := own_blkW HO7.out HC7.out (by decide) y.kind.toNat (.int .i64 ((cz : Int) + 1))
                      have hB9 := belLow6 HB7.out ⟨qc, y.kind.toNat, none⟩ (.int .i64 ((cz : Int) + 1)) hqc
                      go_roundw
                      case rel => exact ⟨j + 1, true, R ++ [(bA s)], by omega, by push_cast; rfl, rfl, hO9, Lib.hid (by rw [HN.out]; exact HG9.out), Lib.hid hA9, Lib.hid hB9⟩
                      case measure => simp [intOf] <;> omega
                    · by_cases hk0 : 0 < y.kind
                      · have t6 : decide ((0 : Int) < y.kind) = true := decide_eq_true hk0
                        have t7 : decide (y.kind < (17 : Int)) = false := decide_eq_false (by omega)
                        have HH := Lib.hid (cntL_miss N (x.round, y) hkn)
                        clear hkn
                        go_wp2
                        go_roundw
                        case rel => exact ⟨j + 1, true, R ++ [(bA s)], by omega, by push_cast; rfl, rfl, HO7.out, Lib.hid (by rw [HN.out]; exact HG9.out), by rw [HN.out, HH.out]; exact HC7, HB7⟩
                        case measure => simp [intOf] <;> omega
                      · have t6 : decide ((0 : Int) < y.kind) = false := decide_eq_false hk0
                        have HH := Lib.hid (cntL_miss N (x.round, y) hkn)
                        clear hkn
                        go_wp2
                        go_roundw
                        case rel => exact ⟨j + 1, true, R ++ [(bA s)], by omega, by push_cast; rfl, rfl, HO7.out, Lib.hid (by rw [HN.out]; exact HG9.out), by rw [HN.out, HH.out]; exact HC7, HB7⟩
                        case measure => simp [intOf] <;> omega
          · obtain rfl : j = x.en := by omega
            have hd : decide ((x.en : Int) < (x.en : Int)) = false := decide_eq_false (by omega)
            rw [List.take_of_length_le (l := evsS x) (by unfold evsS; rw [List.length_map, HEN.out]; exact Nat.le_refl _), ← evs_next HX.out] at HP HC
            go_wp2
            go_roundw
            case rel => exact ⟨k + 1, gd, R, by omega, by push_cast; rfl, rfl, hO, HP, HC, HB⟩
            case measure => simp [intOf] <;> omega
      · obtain rfl : k = L.length := by omega
        have hd : decide ((L.length : Int) < (L.length : Int)) = false := decide_eq_false (by omega)
        rw [List.take_length] at HP HC
        have HO := Lib.hid hO
        clear hO
        have CL := Lib.hid (lg_Lines a L.length cap L wr rfl (fun x hx => good_later (HG.out x hx) HB.out) (HR.out.later HB.out) (by have := HT.out.2.2; omega) (fun u hu => (HE.out u (belStep HB.out hu)).tab))
        obtain ⟨n, hn⟩ := cntL_17 (evsOf L)
        have CC := Lib.hid (fun u (hu : Below W.heap.size W u) => lg_Count a L.length cap L u rfl (fun x hx => good_later (HG.out x hx) hu) (HR.out.later hu) (by have := HT.out.2.2; omega))
        rw [hn] at CC HC
        clear hn
        have teq := eq17 n
        cases gd
        · as_aux_lemma =>
            have hsq := HP.out.2.2 rfl
            go_upto_region 19 with (go_at_call 17; (with_reducible refine (CL.out).mono ?_); rintro e9 wl ⟨hlp, hbl⟩; have e9r := lns_no' hsq hlp; subst e9r; clear hlp; have HBl := Lib.hid (belStep HB.out hbl); have HCl := Lib.hid (HC.out.later hbl); have HOl := Lib.hid (OwnR.later HO.out hbl); clear hbl)
            have hbel : Below wl.heap.size wl wl := Below.refl _ _
            have n0 := keep (HCl.out.cell (j := 0) rfl)
            have n1 := keep (HCl.out.cell (j := 1) rfl)
            have n2 := keep (HCl.out.cell (j := 2) rfl)
            have n3 := keep (HCl.out.cell (j := 3) rfl)
            have n4 := keep (HCl.out.cell (j := 4) rfl)
            have n5 := keep (HCl.out.cell (j := 5) rfl)
            have n6 := keep (HCl.out.cell (j := 6) rfl)
            have n7 := keep (HCl.out.cell (j := 7) rfl)
            have n8 := keep (HCl.out.cell (j := 8) rfl)
            have n9 := keep (HCl.out.cell (j := 9) rfl)
            have n10 := keep (HCl.out.cell (j := 10) rfl)
            have n11 := keep (HCl.out.cell (j := 11) rfl)
            have n12 := keep (HCl.out.cell (j := 12) rfl)
            have n13 := keep (HCl.out.cell (j := 13) rfl)
            have n14 := keep (HCl.out.cell (j := 14) rfl)
            have n15 := keep (HCl.out.cell (j := 15) rfl)
            have n16 := keep (HCl.out.cell (j := 16) rfl)
            refine wp_region_held_drew (S := fun u => Below wl.heap.size wl u) (by kernel_rfl) (by exact (show Below wl.heap.size wl _ by repeat (first | assumption | exact Below.refl _ _ | refine belDrew ?_ | refine belAlloc ?_ _ | refine belStep ?_ (by assumption)))) (fun hHeld => ?_)
            refine wpAnyH_take (i := 0) (oi := ?oi_k27) (v := ?v_k27) ?hi_k27 (by kernel_rfl) ?hf_k27 ?hr_k27 ?hQ_k27 (Or.inl ⟨?hw_k27, ?hy_k27⟩) (by assumption) ?rest_k27
            case hi_k27 => ((simp only [List.getElem?_toArray, List.getElem?_cons_succ, List.getElem?_cons_zero]); rfl)
            case hf_k27 => kernel_rfl
            case hr_k27 => kernel_rfl
            case hQ_k27 => exact fun _ _ _ h => h
            case hw_k27 => rfl
            case hy_k27 => ((intro w hSw; (try dsimp only at hSw); go_simp); all_goals (with_reducible rfl))
            try simp only [Act.put, List.setIfInBounds_toArray, List.set_cons_zero, List.set_cons_succ]
            refine wpAnyH_take (i := 2) (oi := ?oi_k28) (v := ?v_k28) ?hi_k28 (by kernel_rfl) ?hf_k28 ?hr_k28 ?hQ_k28 (Or.inl ⟨?hw_k28, ?hy_k28⟩) (by assumption) ?rest_k28
            case hi_k28 => ((simp only [List.getElem?_toArray, List.getElem?_cons_succ, List.getElem?_cons_zero]); rfl)
            case hf_k28 => kernel_rfl
            case hr_k28 => kernel_rfl
            case hQ_k28 => exact fun _ _ _ h => h
            case hw_k28 => rfl
            case hy_k28 => ((intro w hSw; (try dsimp only at hSw); have n0w := n0 _ hSw; have n1w := n1 _ hSw; have n2w := n2 _ hSw; have n3w := n3 _ hSw; have n4w := n4 _ hSw; have n5w := n5 _ hSw; have n6w := n6 _ hSw; have n7w := n7 _ hSw; have n8w := n8 _ hSw; have n9w := n9 _ hSw; have n10w := n10 _ hSw; have n11w := n11 _ hSw; have n12w := n12 _ hSw; have n13w := n13 _ hSw; have n14w := n14 _ hSw; have n15w := n15 _ hSw; have n16w := n16 _ hSw; go_simp); all_goals (with_reducible rfl))
            try simp only [Act.put, List.setIfInBounds_toArray, List.set_cons_zero, List.set_cons_succ]
            clear n0 n1 n2 n3 n4 n5 n6 n7 n8 n9 n10 n11 n12 n13 n14 n15 n16
            refine wpAnyH_ready (rs := [1]) (by kernel_rfl) (by simp) ?_
            refine AllReadyH.cons (o := ?o1_k29) ?hi_k29 (fun K hK => ?rest_k29) AllReadyH.nil
            case hi_k29 => ((simp only [List.getElem?_toArray, List.getElem?_cons_succ, List.getElem?_cons_zero]); rfl)
            go_simp
            (go_at_call 18; (with_reducible refine (CC.out _ (belStep HBl.out hHeld)).mono ?_); rintro e9 wc ⟨rfl, hbc⟩)
            try go_simp
            refine hK.out _ _ (by exact (show Below wl.heap.size wl _ by repeat (first | assumption | exact Below.refl _ _ | refine belDrew ?_ | refine belAlloc ?_ _ | refine belStep ?_ (by assumption)))) (fun hHeld => ?_)
            clear hK K
            try simp only [Act.put, List.setIfInBounds_toArray, List.set_cons_zero, List.set_cons_succ]
            refine wpAnyH_take (i := 3) (oi := ?oi_k30) (v := ?v_k30) ?hi_k30 (by kernel_rfl) ?hf_k30 ?hr_k30 ?hQ_k30 (Or.inl ⟨?hw_k30, ?hy_k30⟩) (by assumption) ?rest_k30
            case hi_k30 => ((simp only [List.getElem?_toArray, List.getElem?_cons_succ, List.getElem?_cons_zero]); rfl)
            case hf_k30 => kernel_rfl
            case hr_k30 => kernel_rfl
            case hQ_k30 => exact fun _ _ _ h => h
            case hw_k30 => rfl
            case hy_k30 => ((intro w hSw; (try dsimp only at hSw); go_simp); all_goals (with_reducible rfl))
            try simp only [Act.put, List.setIfInBounds_toArray, List.set_cons_zero, List.set_cons_succ]
            refine wpAnyH_done (by kernel_rfl) ?_ _
            have HBc := Lib.hid (belStep HBl.out hHeld)
            have HOc := Lib.hid (OwnR.later HOl.out hHeld)
            go_wp2
            go_ret
            exact ⟨rfl, HBc.out⟩
        · as_aux_lemma =>
            have hsq := HP.out.2.1 rfl
            go_upto_region 19 with (go_at_call 17; (with_reducible refine (CL.out).mono ?_); rintro e9 wl ⟨hlp, hbl⟩; obtain ⟨la, lc, rfl, hlo⟩ := lns_yesB hsq hlp; clear hlp; have HLO := Lib.hid hlo; clear hlo; have HBl := Lib.hid (belStep HB.out hbl); have HCl := Lib.hid (HC.out.later hbl); have HOl := Lib.hid (OwnR.later HO.out hbl); clear hbl)
            have hbel : Below wl.heap.size wl wl := Below.refl _ _
            have n0 := keep (HCl.out.cell (j := 0) rfl)
            have n1 := keep (HCl.out.cell (j := 1) rfl)
            have n2 := keep (HCl.out.cell (j := 2) rfl)
            have n3 := keep (HCl.out.cell (j := 3) rfl)
            have n4 := keep (HCl.out.cell (j := 4) rfl)
            have n5 := keep (HCl.out.cell (j := 5) rfl)
            have n6 := keep (HCl.out.cell (j := 6) rfl)
            have n7 := keep (HCl.out.cell (j := 7) rfl)
            have n8 := keep (HCl.out.cell (j := 8) rfl)
            have n9 := keep (HCl.out.cell (j := 9) rfl)
            have n10 := keep (HCl.out.cell (j := 10) rfl)
            have n11 := keep (HCl.out.cell (j := 11) rfl)
            have n12 := keep (HCl.out.cell (j := 12) rfl)
            have n13 := keep (HCl.out.cell (j := 13) rfl)
            have n14 := keep (HCl.out.cell (j := 14) rfl)
            have n15 := keep (HCl.out.cell (j := 15) rfl)
            have n16 := keep (HCl.out.cell (j := 16) rfl)
            refine wp_region_held_drew (S := fun u => Below wl.heap.size wl u) (by kernel_rfl) (by exact (show Below wl.heap.size wl _ by repeat (first | assumption | exact Below.refl _ _ | refine belDrew ?_ | refine belAlloc ?_ _ | refine belStep ?_ (by assumption)))) (fun hHeld => ?_)
            refine wpAnyH_take (i := 0) (oi := ?oi_k31) (v := ?v_k31) ?hi_k31 (by kernel_rfl) ?hf_k31 ?hr_k31 ?hQ_k31 (Or.inl ⟨?hw_k31, ?hy_k31⟩) (by assumption) ?rest_k31
            case hi_k31 => ((simp only [List.getElem?_toArray, List.getElem?_cons_succ, List.getElem?_cons_zero]); rfl)
            case hf_k31 => kernel_rfl
            case hr_k31 => kernel_rfl
            case hQ_k31 => exact fun _ _ _ h => h
            case hw_k31 => rfl
            case hy_k31 => ((intro w hSw; (try dsimp only at hSw); go_simp); all_goals (with_reducible rfl))
            try simp only [Act.put, List.setIfInBounds_toArray, List.set_cons_zero, List.set_cons_succ]
            refine wpAnyH_take (i := 2) (oi := ?oi_k32) (v := ?v_k32) ?hi_k32 (by kernel_rfl) ?hf_k32 ?hr_k32 ?hQ_k32 (Or.inl ⟨?hw_k32, ?hy_k32⟩) (by assumption) ?rest_k32
            case hi_k32 => ((simp only [List.getElem?_toArray, List.getElem?_cons_succ, List.getElem?_cons_zero]); rfl)
            case hf_k32 => kernel_rfl
            case hr_k32 => kernel_rfl
            case hQ_k32 => exact fun _ _ _ h => h
            case hw_k32 => rfl
            case hy_k32 => ((intro w hSw; (try dsimp only at hSw); have n0w := n0 _ hSw; have n1w := n1 _ hSw; have n2w := n2 _ hSw; have n3w := n3 _ hSw; have n4w := n4 _ hSw; have n5w := n5 _ hSw; have n6w := n6 _ hSw; have n7w := n7 _ hSw; have n8w := n8 _ hSw; have n9w := n9 _ hSw; have n10w := n10 _ hSw; have n11w := n11 _ hSw; have n12w := n12 _ hSw; have n13w := n13 _ hSw; have n14w := n14 _ hSw; have n15w := n15 _ hSw; have n16w := n16 _ hSw; go_simp); all_goals (with_reducible rfl))
            try simp only [Act.put, List.setIfInBounds_toArray, List.set_cons_zero, List.set_cons_succ]
            clear n0 n1 n2 n3 n4 n5 n6 n7 n8 n9 n10 n11 n12 n13 n14 n15 n16
            refine wpAnyH_ready (rs := [1]) (by kernel_rfl) (by simp) ?_
            refine AllReadyH.cons (o := ?o1_k33) ?hi_k33 (fun K hK => ?rest_k33) AllReadyH.nil
            case hi_k33 => ((simp only [List.getElem?_toArray, List.getElem?_cons_succ, List.getElem?_cons_zero]); rfl)
            go_simp
            (go_at_call 18; (with_reducible refine (CC.out _ (belStep HBl.out hHeld)).mono ?_); rintro e9 wc ⟨rfl, hbc⟩)
            try go_simp
            refine hK.out _ _ (by exact (show Below wl.heap.size wl _ by repeat (first | assumption | exact Below.refl _ _ | refine belDrew ?_ | refine belAlloc ?_ _ | refine belStep ?_ (by assumption)))) (fun hHeld => ?_)
            clear hK K
            try simp only [Act.put, List.setIfInBounds_toArray, List.set_cons_zero, List.set_cons_succ]
            refine wpAnyH_take (i := 3) (oi := ?oi_k34) (v := ?v_k34) ?hi_k34 (by kernel_rfl) ?hf_k34 ?hr_k34 ?hQ_k34 (Or.inl ⟨?hw_k34, ?hy_k34⟩) (by assumption) ?rest_k34
            case hi_k34 => ((simp only [List.getElem?_toArray, List.getElem?_cons_succ, List.getElem?_cons_zero]); rfl)
            case hf_k34 => kernel_rfl
            case hr_k34 => kernel_rfl
            case hQ_k34 => exact fun _ _ _ h => h
            case hw_k34 => rfl
            case hy_k34 => ((intro w hSw; (try dsimp only at hSw); go_simp); all_goals (with_reducible rfl))
            try simp only [Act.put, List.setIfInBounds_toArray, List.set_cons_zero, List.set_cons_succ]
            refine wpAnyH_done (by kernel_rfl) ?_ _
            have HBc := Lib.hid (belStep HBl.out hHeld)
            have HOc := Lib.hid (OwnR.later HOl.out hHeld)
            have HL9 := Lib.hid (OwnR.later HLO.out hHeld)
            obtain ⟨va, vc, rfl, hrw⟩ := rowR_of_own HOc.out
            have CS := Lib.hid (sames_any la va R.length R.length lc vc R R wc rfl rfl (row_of_ownW HL9.out) hrw)
            rw [same_refl] at CS
            clear hrw
            go_wp2_with (go_at_call 19; (with_reducible refine (CS.out).mono ?_); rintro e9 ws ⟨rfl, hbs⟩; have HBs := Lib.hid (belStep HBc.out hbs); clear hbs)
            go_ret
            exact ⟨rfl, HBs.out⟩
theorem env_of {W : World} (h : laidMet Tryd.prog Rows.logAllRow.laid W) (hs : W.ShapedOpen Tryd.prog) : Env W := env_of7 h hs

set_option maxRecDepth 100000 in
set_option maxRecDepth 100000 in
theorem lifted (os : Os) (started : os.Started) (H : Type) (enc : TypeId × Value → H) :
    ReturnsInHanded {} Tryd.checked os 7 .any (fun w args => (Rows.logAllSpec.pre enc Tryd.prog Tryd.f7 [] false w args ∧ laidMetH Tryd.prog Rows.logAllRow.laid w) ∧ sizedMet enc Tryd.prog Tryd.f7 (OpenSpec.ofChange Rows.logAllSpec) false w args) (Rows.logAllSpec.post enc Tryd.prog Tryd.f7 false true false false) := by
  refine returnsInHanded_of_change_and_shaped (C := Tryd.checked) (X := fun w _ => laidMetH Tryd.prog Rows.logAllRow.laid w) (fun _ _ _ hh h => h.of_heap hh) own started (by kernel_rfl) Tryd.func7
    (ChangeSpec.witness_shaped (enc := enc) (C := Tryd.checked) (os := os) (X := fun w _ => laidMetH Tryd.prog Rows.logAllRow.laid w) false (World.laidAll Tryd.prog os Rows.logAllRow.laid) #[.slice none 0 0] 8 (World.laidAll_os _ _ _) (World.shaped_of_ZipB (by kernel_rfl) (by kernel_rfl)) (by kernel_rfl) (by kernel_rfl) (by kernel_rfl) (by rw [MakeChecks.laidMetH_plain _ _ _ (by kernel_rfl)]; exact laidMet_laidAll _ (by kernel_rfl) (by kernel_rfl))) ?_
  intro W base args ds gs before hval0 hW hL hsh
  rw [MakeChecks.laidMetH_plain _ _ _ (by kernel_rfl)] at hL
  have ht : Env W := env_of hL hsh
  clear hL
  have hval : ∀ (j : Nat) t v, Tryd.f7.params[j]? = some t → args[j]? = some v → Value.okWide Tryd.prog W .any base t v := hval0
  have hW' := hW
  obtain ⟨p, q, hA0, hV, rfl, hfz, hnd⟩ := hW
  have hA : DataW.TrodAll enc Tryd.prog W 0 (fun _ => true) true Tryd.f7.params.toList args.toList ds p := hA0
  rw [Tryd.params7] at hA hval
  obtain ⟨v0, vs0, d0, ds0, p0, q0, hargs, rfl, rfl, h0, r0⟩ := trodAll_cons hA
  obtain ⟨rfl, rfl, rfl⟩ := trodAll_nil r0
  obtain rfl : args = #[v0] := by cases args; simp_all
  obtain ⟨rfl, rfl⟩ := trodVars_none hV
  have k0 := h0
  have lt0 : ∀ x ∈ p0, x.block < W.heap.size := by obtain ⟨m, hm⟩ := k0; exact DataW.trod_lt m _ _ _ hm
  have o0 : Value.okWide Tryd.prog W .any base 39 v0 := hval 0 39 v0 rfl rfl
  obtain ⟨a0, len0, cap0, L0, rfl, hl0, hG0, hR0⟩ := open_steps o0 h0
  clear hA0 hval0
  refine (walk a0 len0 cap0 L0 W ht hl0 hG0 hR0).mono fun e W' ⟨he, bel⟩ => ?_
  subst he
  exact ⟨_, rfl, _, _, _, [], _, [], hW', trodAll_mk1 (shut_bool Tryd.underlying4 _), (trodAll_cons_mk (Below.trod laidOut (by kernel_rfl) (of_decide_eq_true (by kernel_rfl)) k0 bel lt0) trodAll_mk0), rfl, bel.frame _, fun h => by cases h⟩

theorem over : Rows.logAllRow.holds Tryd.pinned (OpenSpec.ofChange Rows.logAllSpec) :=
  OpenClaim.holds_of_wide 7 Tryd.f7 rfl rfl rfl rfl rfl rfl rfl ⟨rfl, rfl, rfl, rfl, rfl⟩ rfl rfl rfl rfl rfl (by kernel_rfl) Tryd.func7 (by kernel_rfl)
    (of_decide_eq_true (by kernel_rfl)) (by unfold Func.isWrapper; first | (rw [if_pos (by decide +kernel)]; kernel_rfl) | (rw [if_neg (by decide +kernel)]; exact ⟨rfl, rfl⟩))
    (fun os started H enc _ => lifted os started H enc)

/-- The statement. -/
theorem proved : Rows.LogAllCardSaid :=
  Claim7.holds_tied_plain_at .later [] Rows.logAllCard.laidKinds true Rows.logAllCard.stood.harness true
    over (fun _ h => by cases h) (by kernel_rfl) (fun _ h => by cases h) logAll_row_tie rfl ⟨rfl, rfl⟩ (by kernel_rfl) rfl
    (fun f fn hf hfn => by
      obtain rfl : f = 7 := Option.some.inj ((show Tryd.prog.funcNamed Rows.logAllRow.func = some 7 by kernel_rfl).symm.trans hf) |>.symm
      obtain rfl : fn = Tryd.f7 := (Option.some.inj (Tryd.func7.symm.trans hfn)).symm
      exact ⟨by kernel_rfl, fun j t ht => by
        rw [Tryd.params7] at ht
        have hm : t ∈ [39] := by simpa using Array.mem_of_getElem? ht
        have hall : ([39].all fun u => !Tryd.prog.wantsStandIn u) = true := by kernel_rfl
        exact (show Tryd.prog.wantsStandIn t = false by simpa using List.all_eq_true.1 hall t hm)⟩)
    (by kernel_rfl)
#print axioms proved

end Go.Proofs.YtekakalhknjdaaaDoor.logAll
