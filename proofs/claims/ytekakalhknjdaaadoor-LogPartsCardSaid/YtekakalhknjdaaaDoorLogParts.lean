
/- LogParts holds for all its arguments. No conditions but that the library's variables lie as its own text lays them. -/
import Derived.Lay
import Derived.Test.YtekakalhknjdaaaDoorLgB
import Derived.Test.YtekakalhknjdaaaDoorThrCards
import Derived.Test.YtekakalhknjdaaaDoorLgH
import Derived.Test.YtekakalhknjdaaaDoorSamesL
namespace Go.Proofs.YtekakalhknjdaaaDoor.logParts
open Go.ChangeShapes Go.WideShapes Go.ChangeAt Go.RowKit
open Go.ChangeMaps (open_string shut_string)
set_option linter.unusedVariables false
set_option linter.unusedSimpArgs false
theorem good_later {W u : World} {x : StepV} (h : x.good W) (hb : Below W.heap.size W u) : x.good u := ⟨h.1, h.2.later hb⟩
theorem lns_yes' {base : Nat} {L : List StepV} {R : List (List UInt8)} {e0 : Ending} {w' : World} (h : seqL (evsOf L) = some R) (hp : LnsP base L e0 w') : ∃ (a : Option Addr) (c : Nat), e0 = .returned (.tuple #[.slice a R.length c, .int .i64 0]) ∧ OwnR w' base 9 1 (.slice a R.length c) R.length (R.map strB) := by unfold LnsP at hp; rw [h] at hp; exact hp
theorem lns_no' {base : Nat} {L : List StepV} {e0 : Ending} {w' : World} (h : seqL (evsOf L) = none) (hp : LnsP base L e0 w') : e0 = .returned (.tuple #[.slice none 0 0, .int .i64 1]) := by unfold LnsP at hp; rw [h] at hp; exact hp
theorem turn_toL {n : Nat} {z : Int} (h : 0 ≤ z) : ∃ k : Nat, Int.tmod z ((n : Int) + 1) = (k : Int) ∧ k ≤ n := by
  have h1 : Int.tmod z ((n : Int) + 1) = z % ((n : Int) + 1) := Int.tmod_eq_emod_of_nonneg h
  have h2 := Int.emod_nonneg z (show ((n : Int) + 1) ≠ 0 by omega)
  have h3 := Int.emod_lt_of_pos z (show (0 : Int) < (n : Int) + 1 by omega)
  exact ⟨(z % ((n : Int) + 1)).toNat, by rw [h1]; omega, by omega⟩
def cntV (A : List (Int × EvV)) (j : Nat) : Int := if j = 0 then 0 else (cntK A (j : Int) : Int)
theorem cntV_app (A B : List (Int × EvV)) (j : Nat) : cntV (A ++ B) j = cntV A j + cntV B j := by
  unfold cntV
  split
  · rfl
  · rw [cntK_app]; push_cast; rfl
theorem cntV_bd (A : List (Int × EvV)) (j : Nat) : 0 ≤ cntV A j ∧ cntV A j ≤ A.length := by
  unfold cntV
  have := cntK_le A (j : Int)
  split <;> omega
theorem cntV_at (A : List (Int × EvV)) {j : Nat} (h : j < 17) : (cntL A)[j]? = some (.int .i64 (cntV A j)) := cntL_at A h
theorem evs_cut (L : List StepV) (k : Nat) : evsOf L = evsOf (L.take k) ++ evsOf (L.drop k) := by
  unfold evsOf
  rw [← List.flatMap_append, List.take_append_drop]
theorem seq_both {A B : List (Int × EvV)} {a b : List (List UInt8)} (h : seqL A = some a) (g : seqL B = some b) : seqL (A ++ B) = some (a ++ b) := by rw [seqL_app, h, g]
theorem seq_noL {A B : List (Int × EvV)} (h : seqL A = none) : seqL (A ++ B) = none := by rw [seqL_app, h]
theorem seq_noR {A B : List (Int × EvV)} (h : seqL B = none) : seqL (A ++ B) = none := by
  rw [seqL_app, h]
  cases seqL A <;> rfl
theorem strB_row (R : List (List UInt8)) : R.map strB = (R.map bA).map Value.string := by rw [List.map_map]; rfl
theorem lns_any {base : Nat} {L : List StepV} {e0 : Ending} {w' : World} (hp : LnsP base L e0 w') : ∃ (a : Option Addr) (n c : Nat) (er : Int) (R : List (List UInt8)), e0 = .returned (.tuple #[.slice a n c, .int .i64 er]) ∧ Row w' a n c 1 (R.map strB) ∧ Hid (R.length = n) ∧ Hid ((er = 0 ∧ seqL (evsOf L) = some R) ∨ (er = 1 ∧ seqL (evsOf L) = none ∧ n = 0)) := by
  cases h : seqL (evsOf L) with
  | none => exact ⟨none, 0, 0, 1, [], lns_no' h hp, ⟨rfl, Nat.le_refl _, by unfold maxLen; omega, fun _ => ⟨rfl, rfl⟩, .inl rfl⟩, Lib.hid rfl, Lib.hid (.inr ⟨rfl, rfl, rfl⟩)⟩
  | some R =>
    obtain ⟨a, c, h1, h2⟩ := lns_yes' h hp
    exact ⟨a, R.length, c, 0, R, h1, row_of_ownW h2, Lib.hid rfl, Lib.hid (.inl ⟨rfl, rfl⟩)⟩
theorem wpList_wanted {P : Program} {ops : Array Oper} {Q : Exit → Act → World → Prop} {o : Oper} {rest : List Oper} {a : Act} {w : World} (hw : Region.wanted o (yielded ops a.tmps) = true) (h : wpList P ops Q ({ o with guard := none } :: rest) a w) : wpList P ops Q (o :: rest) a w := by
  unfold wpList at h ⊢
  rw [if_pos hw]
  rw [if_pos (by simp [Region.wanted])] at h
  exact h
theorem ones_str (R : List (List UInt8)) : ∀ u ∈ R.map strB, u.oneCell' = true := by
  intro u hu
  obtain ⟨s, _, rfl⟩ := List.mem_map.1 hu
  rfl
set_option maxRecDepth 100000 in
set_option maxHeartbeats 64000000 in
theorem walk (a : Option Addr) (len cap : Nat) (L : List StepV) (z : Int) (W : World) (ht : Env W) (hl : L.length = len) (hG : ∀ x ∈ L, x.good W) (hR : Row W a len cap 7 (L.flatMap StepV.cells)) (hz : 0 ≤ z ∧ z ≤ 255) :
    Calls Tryd.prog 8 #[.slice a len cap, .int .u8 z] W fun e0 w' => e0 = .returned (.bool true) ∧ Below W.heap.size W w' := by
  have hbd_a : len ≤ cap ∧ cap ≤ 9223372036854775807 := by obtain ⟨_, h1, h2, _⟩ := hR; unfold maxLen at h2; exact ⟨h1, h2⟩
  obtain ⟨hbd1_a, hbd2_a⟩ := hbd_a
  have hbel : Below W.heap.size W W := Below.refl _ _
  have HE := Lib.hid (fun u (hu : Below W.heap.size W u) => ht.later hu)
  have HR := Lib.hid hR
  have HG := Lib.hid hG
  subst hl
  have CA := Lib.hid (fun u (hu : Below W.heap.size W u) => awake27 u (HE.out u hu))
  have CF := Lib.hid (fun u (hu : Below W.heap.size W u) => rf_Few27 a L.length cap L u rfl (fun x hx => good_later (HG.out x hx) hu) (HR.out.later hu))
  clear ht hR hG
  cases hf : fewS L with
  | false =>
    rw [hf] at CF
    clear hf
    go_enter Tryd.func8, Tryd.ntmps8
    go_wp2_with (first | (go_at_call 10; (with_reducible refine (CA.out _ hbel).mono ?_); rintro e9 w9 ⟨rfl, hb9⟩; replace hbel := belStep hbel hb9; clear hb9) | (go_at_call 16; (with_reducible refine (CF.out _ hbel).mono ?_); rintro e9 wf ⟨rfl, rfl⟩))
    go_ret
    exact ⟨rfl, hbel⟩
  | true =>
    have HT := Lib.hid (fewS_bd hf HG.out)
    have hl40 := HT.out.1
    rw [hf] at CF
    clear hf
    obtain ⟨k, hkt, hkl⟩ := turn_toL (n := L.length) hz.1
    have hz2 := hz.2
    have hkw : IntKind.i64.wrap (k : Int) = (k : Int) := IntWalk.i64_in _ (by omega)
    have hki : (k : Int) ≤ (L.length : Int) := by omega
    have hk0 : (0 : Int) ≤ (k : Int) := by omega
    have HTK := Lib.hid (show (L.take k).length = k from by rw [List.length_take]; omega)
    have HDR := Lib.hid (show (L.drop k).length = L.length - k from List.length_drop)
    have HEC := Lib.hid (evs_cut L k)
    have hbE : (evsOf (L.take k)).length + (evsOf (L.drop k)).length ≤ 1200 := by have h1 := HT.out.2.2; rw [HEC.out, List.length_append] at h1; exact h1
    have HBE := Lib.hid hbE
    clear hbE
    have HGT := Lib.hid (fun x (hx : x ∈ L.take k) => HG.out x (List.mem_of_mem_take hx))
    have HGD := Lib.hid (fun x (hx : x ∈ L.drop k) => HG.out x (List.mem_of_mem_drop hx))
    have HRT := Lib.hid (row_takeG StepV.cells_len (by omega) HR.out hkl)
    have HRD := Lib.hid (row_dropG StepV.cells_len (by omega) HR.out hkl)
    have CLa := Lib.hid (fun u (hu : Below W.heap.size W u) => lg_Lines a k cap (L.take k) u HTK.out (fun x hx => good_later (HGT.out x hx) hu) (HRT.out.later hu) (by have := HBE.out; omega) (fun v hv => (HE.out v (hu.trans (hv.mono hu.size))).tab))
    have CCa := Lib.hid (fun u (hu : Below W.heap.size W u) => lg_Count a k cap (L.take k) u HTK.out (fun x hx => good_later (HGT.out x hx) hu) (HRT.out.later hu) (by have := HBE.out; omega))
    have CLb := Lib.hid (fun u (hu : Below W.heap.size W u) => lg_Lines (if cap = k then a else Option.map (fun x => x.add (k * 7)) a) (L.length - k) (cap - k) (L.drop k) u HDR.out (fun x hx => good_later (HGD.out x hx) hu) (HRD.out.later hu) (by have := HBE.out; omega) (fun v hv => (HE.out v (hu.trans (hv.mono hu.size))).tab))
    have CCb := Lib.hid (fun u (hu : Below W.heap.size W u) => lg_Count (if cap = k then a else Option.map (fun x => x.add (k * 7)) a) (L.length - k) (cap - k) (L.drop k) u HDR.out (fun x hx => good_later (HGD.out x hx) hu) (HRD.out.later hu) (by have := HBE.out; omega))
    have CLc := Lib.hid (fun u (hu : Below W.heap.size W u) => lg_Lines a L.length cap L u rfl (fun x hx => good_later (HG.out x hx) hu) (HR.out.later hu) (by have := HT.out.2.2; omega) (fun v hv => (HE.out v (hu.trans (hv.mono hu.size))).tab))
    have CCc := Lib.hid (fun u (hu : Below W.heap.size W u) => lg_Count a L.length cap L u rfl (fun x hx => good_later (HG.out x hx) hu) (HR.out.later hu) (by have := HT.out.2.2; omega))
    obtain ⟨na, hna⟩ := cntL_17 (evsOf (L.take k))
    obtain ⟨nb, hnb⟩ := cntL_17 (evsOf (L.drop k))
    obtain ⟨nc, hnc⟩ := cntL_17 (evsOf L)
    rw [hna] at CCa
    rw [hnb] at CCb
    rw [hnc] at CCc
    have HNA := Lib.hid hna
    have HNB := Lib.hid hnb
    have HNC := Lib.hid hnc
    clear hna hnb hnc
    skip
    go_enter Tryd.func8, Tryd.ntmps8
    go_upto_region 3 with (first | (go_at_call 10; (with_reducible refine (CA.out _ hbel).mono ?_); rintro e9 w9 ⟨rfl, hb9⟩; replace hbel := belStep hbel hb9; clear hb9) | (go_at_call 16; (with_reducible refine (CF.out _ hbel).mono ?_); rintro e9 wf ⟨rfl, rfl⟩))
    clear CA CF
    go_upto_region 5 with (go_at_call 17; (with_reducible refine (CLa.out _ hbel).mono ?_); rintro e9 w9 ⟨hlp, hb9⟩; obtain ⟨la, na9, ca, ea, Ra, rfl, hlo, HNa9, HSa⟩ := lns_any hlp; have HLa := Lib.hid hlo; clear hlo; replace hbel := belStep hbel hb9; clear hlp hb9)
    go_upto_region 6 with (go_at_call 17; (with_reducible refine (CLb.out _ hbel).mono ?_); rintro e9 w9 ⟨hlp, hb9⟩; obtain ⟨lb, nb9, cb, eb, Rb, rfl, hlo, HNb9, HSb⟩ := lns_any hlp; have HLb := Lib.hid hlo; clear hlo; replace hbel := belStep hbel hb9; replace HLa := Lib.hid (HLa.out.later hb9); clear hlp hb9)
    generalize (if cap = k then a else Option.map (fun x => x.add (k * 7)) a) = d5
    go_upto_region 7 with (go_at_call 17; (with_reducible refine (CLc.out _ hbel).mono ?_); rintro e9 w9 ⟨hlp, hb9⟩; obtain ⟨lc, nc9, cc, ec, Rc, rfl, hlo, HNc9, HSc⟩ := lns_any hlp; have HLc := Lib.hid hlo; clear hlo; replace hbel := belStep hbel hb9; replace HLa := Lib.hid (HLa.out.later hb9); replace HLb := Lib.hid (HLb.out.later hb9); clear hlp hb9)
    clear CLa CLb CLc
    go_upto_region 8 with (go_at_call 18; (with_reducible refine (CCa.out _ hbel).mono ?_); rintro e9 wx ⟨rfl, hb9⟩; replace hbel := belStep hbel hb9; replace HLa := Lib.hid (HLa.out.later hb9); replace HLb := Lib.hid (HLb.out.later hb9); replace HLc := Lib.hid (HLc.out.later hb9); clear hb9)
    have hal := belAlloc (Below.refl wx.heap.size wx) (.cells #[.int .i64 (na 0), .int .i64 (na 1), .int .i64 (na 2), .int .i64 (na 3), .int .i64 (na 4), .int .i64 (na 5), .int .i64 (na 6), .int .i64 (na 7), .int .i64 (na 8), .int .i64 (na 9), .int .i64 (na 10), .int .i64 (na 11), .int .i64 (na 12), .int .i64 (na 13), .int .i64 (na 14), .int .i64 (na 15), .int .i64 (na 16)] 42)
    have HXa := Lib.hid (Blk.new wx [.int .i64 (na 0), .int .i64 (na 1), .int .i64 (na 2), .int .i64 (na 3), .int .i64 (na 4), .int .i64 (na 5), .int .i64 (na 6), .int .i64 (na 7), .int .i64 (na 8), .int .i64 (na 9), .int .i64 (na 10), .int .i64 (na 11), .int .i64 (na 12), .int .i64 (na 13), .int .i64 (na 14), .int .i64 (na 15), .int .i64 (na 16)] 42)
    replace HLa := Lib.hid (HLa.out.later hal)
    replace HLb := Lib.hid (HLb.out.later hal)
    replace HLc := Lib.hid (HLc.out.later hal)
    replace hbel := belStep hbel hal
    clear hal
    generalize wx.alloc (.cells #[.int .i64 (na 0), .int .i64 (na 1), .int .i64 (na 2), .int .i64 (na 3), .int .i64 (na 4), .int .i64 (na 5), .int .i64 (na 6), .int .i64 (na 7), .int .i64 (na 8), .int .i64 (na 9), .int .i64 (na 10), .int .i64 (na 11), .int .i64 (na 12), .int .i64 (na 13), .int .i64 (na 14), .int .i64 (na 15), .int .i64 (na 16)] 42) = Wa at *
    generalize wx.heap.size = qa at *
    go_upto_region 9 with (go_at_call 18; (with_reducible refine (CCb.out _ hbel).mono ?_); rintro e9 wy ⟨rfl, hb9⟩; replace hbel := belStep hbel hb9; replace HLa := Lib.hid (HLa.out.later hb9); replace HLb := Lib.hid (HLb.out.later hb9); replace HLc := Lib.hid (HLc.out.later hb9); replace HXa := Lib.hid (HXa.out.later hb9); clear hb9)
    have hal := belAlloc (Below.refl wy.heap.size wy) (.cells #[.int .i64 (nb 0), .int .i64 (nb 1), .int .i64 (nb 2), .int .i64 (nb 3), .int .i64 (nb 4), .int .i64 (nb 5), .int .i64 (nb 6), .int .i64 (nb 7), .int .i64 (nb 8), .int .i64 (nb 9), .int .i64 (nb 10), .int .i64 (nb 11), .int .i64 (nb 12), .int .i64 (nb 13), .int .i64 (nb 14), .int .i64 (nb 15), .int .i64 (nb 16)] 42)
    have HXb := Lib.hid (Blk.new wy [.int .i64 (nb 0), .int .i64 (nb 1), .int .i64 (nb 2), .int .i64 (nb 3), .int .i64 (nb 4), .int .i64 (nb 5), .int .i64 (nb 6), .int .i64 (nb 7), .int .i64 (nb 8), .int .i64 (nb 9), .int .i64 (nb 10), .int .i64 (nb 11), .int .i64 (nb 12), .int .i64 (nb 13), .int .i64 (nb 14), .int .i64 (nb 15), .int .i64 (nb 16)] 42)
    replace HLa := Lib.hid (HLa.out.later hal)
    replace HLb := Lib.hid (HLb.out.later hal)
    replace HLc := Lib.hid (HLc.out.later hal)
    replace HXa := Lib.hid (HXa.out.later hal)
    replace hbel := belStep hbel hal
    clear hal
    generalize wy.alloc (.cells #[.int .i64 (nb 0), .int .i64 (nb 1), .int .i64 (nb 2), .int .i64 (nb 3), .int .i64 (nb 4), .int .i64 (nb 5), .int .i64 (nb 6), .int .i64 (nb 7), .int .i64 (nb 8), .int .i64 (nb 9), .int .i64 (nb 10), .int .i64 (nb 11), .int .i64 (nb 12), .int .i64 (nb 13), .int .i64 (nb 14), .int .i64 (nb 15), .int .i64 (nb 16)] 42) = Wb at *
    generalize wy.heap.size = qb at *
    generalize (if cap = k then a else Option.map (fun x => x.add (k * 7)) a) = d8
    go_upto_region 10 with (go_at_call 18; (with_reducible refine (CCc.out _ hbel).mono ?_); rintro e9 wz ⟨rfl, hb9⟩; replace hbel := belStep hbel hb9; replace HLa := Lib.hid (HLa.out.later hb9); replace HLb := Lib.hid (HLb.out.later hb9); replace HLc := Lib.hid (HLc.out.later hb9); replace HXa := Lib.hid (HXa.out.later hb9); replace HXb := Lib.hid (HXb.out.later hb9); clear hb9)
    have hal := belAlloc (Below.refl wz.heap.size wz) (.cells #[.int .i64 (nc 0), .int .i64 (nc 1), .int .i64 (nc 2), .int .i64 (nc 3), .int .i64 (nc 4), .int .i64 (nc 5), .int .i64 (nc 6), .int .i64 (nc 7), .int .i64 (nc 8), .int .i64 (nc 9), .int .i64 (nc 10), .int .i64 (nc 11), .int .i64 (nc 12), .int .i64 (nc 13), .int .i64 (nc 14), .int .i64 (nc 15), .int .i64 (nc 16)] 42)
    have HXc := Lib.hid (Blk.new wz [.int .i64 (nc 0), .int .i64 (nc 1), .int .i64 (nc 2), .int .i64 (nc 3), .int .i64 (nc 4), .int .i64 (nc 5), .int .i64 (nc 6), .int .i64 (nc 7), .int .i64 (nc 8), .int .i64 (nc 9), .int .i64 (nc 10), .int .i64 (nc 11), .int .i64 (nc 12), .int .i64 (nc 13), .int .i64 (nc 14), .int .i64 (nc 15), .int .i64 (nc 16)] 42)
    replace HLa := Lib.hid (HLa.out.later hal)
    replace HLb := Lib.hid (HLb.out.later hal)
    replace HLc := Lib.hid (HLc.out.later hal)
    replace HXa := Lib.hid (HXa.out.later hal)
    replace HXb := Lib.hid (HXb.out.later hal)
    replace hbel := belStep hbel hal
    clear hal
    generalize wz.alloc (.cells #[.int .i64 (nc 0), .int .i64 (nc 1), .int .i64 (nc 2), .int .i64 (nc 3), .int .i64 (nc 4), .int .i64 (nc 5), .int .i64 (nc 6), .int .i64 (nc 7), .int .i64 (nc 8), .int .i64 (nc 9), .int .i64 (nc 10), .int .i64 (nc 11), .int .i64 (nc 12), .int .i64 (nc 13), .int .i64 (nc 14), .int .i64 (nc 15), .int .i64 (nc 16)] 42) = Wc at *
    generalize wz.heap.size = qc at *
    clear CCa CCb CCc
    rw [← HNA.out] at HXa
    rw [← HNB.out] at HXb
    rw [← HNC.out] at HXc
    have HBW := Lib.hid hbel
    clear hbel HNA HNB HNC
    have HB0 := Lib.hid (Below.refl Wc.heap.size Wc)
    go_wp2
    go_loopw [15] (fun iv wr => ∃ j : Nat, j ≤ 17 ∧ iv = .int .i64 j ∧ Hid (Below Wc.heap.size Wc wr)) (fun iv _ => 17 - (intOf iv).toNat)
    case atStart => exact ⟨0, by omega, rfl, HB0⟩
    case round =>
      clear HB0
      obtain ⟨j, hj, rfl, HBr⟩ := hrel
      by_cases hjt : j < 17
      · have hd : decide ((j : Int) < 17) = true := decide_eq_true (by omega)
        have hji : (j : Int) < 17 := by omega
        have x0 := keep ((HXa.out.later HBr.out).cell (cntV_at _ hjt))
        have y0 := keep ((HXb.out.later HBr.out).cell (cntV_at _ hjt))
        have z0 := keep ((HXc.out.later HBr.out).cell (cntV_at _ hjt))
        rw [HEC.out, cntV_app] at z0
        have hbx := cntV_bd (evsOf (L.take k)) j
        have hby := cntV_bd (evsOf (L.drop k)) j
        have hbe := HBE.out
        generalize cntV (evsOf (L.take k)) j = vx at *
        generalize cntV (evsOf (L.drop k)) j = vy at *
        obtain ⟨hx1, hx2⟩ := hbx
        obtain ⟨hy1, hy2⟩ := hby
        have hwr : IntKind.i64.wrap (vx + vy) = vx + vy := IntWalk.i64_in _ (by omega)
        have teq : ((vx + vy) != (vx + vy)) = false := by simp
        have hbel : Below wr.heap.size wr wr := Below.refl _ _
        go_upto_region 13 with fail
        have kk := fun d os => belStep hbel (below_regrown _ d os)
        refine wp_region_quiet_below (by kernel_rfl) (by kernel_rfl) ?_
        repeat ((with_reducible refine wpQuiet_step (fun K hK => ?_)); go_simp; (try (rw [if_neg]; rotate_left; · decide)); first | ((with_reducible refine hK _ ?_); clear hK K) | (apply Exists.intro; refine ⟨fun _ => ?_, hK _ ?_⟩; (fail); clear hK K))
        refine wpQuiet_nil (fun w1 hw1 => ?_)
        replace hbel := belStep hbel (bel_of_class hw1)
        clear hw1 kk
        have HB9 := Lib.hid (belStep HBr.out hbel)
        go_wp2
        go_roundw
        case rel => exact ⟨j + 1, by omega, by push_cast; rfl, HB9⟩
        case measure => simp [intOf] <;> omega
      · obtain rfl : j = 17 := by omega
        have hd : decide (((17 : Nat) : Int) < 17) = false := rfl
        clear HXa HXb HXc
        have HA9 := Lib.hid (HLa.out.later HBr.out)
        have HB9 := Lib.hid (HLb.out.later HBr.out)
        have HC9 := Lib.hid (HLc.out.later HBr.out)
        have HBZ := Lib.hid (belStep HBW.out HBr.out)
        clear HLa HLb HLc HBW HBr
        rcases HSa.out with ⟨rfl, ha2⟩ | ⟨rfl, ha2, _⟩
        · rcases HSb.out with ⟨rfl, hb2⟩ | ⟨rfl, hb2, _⟩
          · have hc9 : ec = 0 ∧ Rc = Ra ++ Rb := by
              rcases HSc.out with ⟨h1, h⟩ | ⟨_, h, _⟩
              · rw [HEC.out, seq_both ha2 hb2] at h; exact ⟨h1, (Option.some.inj h).symm⟩
              · rw [HEC.out, seq_both ha2 hb2] at h; cases h
            obtain ⟨rfl, hrc⟩ := hc9
            have HNX := Lib.hid (show na9 + nb9 = nc9 from by rw [← HNa9.out, ← HNb9.out, ← HNc9.out, hrc, List.length_append])
            have HRC := Lib.hid hrc
            have hna : na9 ≤ 1200 := by rw [← HNa9.out, seqL_len _ _ ha2]; have := HBE.out; omega
            have hnb : nb9 ≤ 1200 := by rw [← HNb9.out, seqL_len _ _ hb2]; have := HBE.out; omega
            clear hrc ha2 hb2
            have HE9 := Lib.hid (own_empty wr 9 1)
            have HRA9 := Lib.hid (HA9.out.later (belAlloc (Below.refl _ _) (.cells #[] 9)))
            go_wp2_with (at_builtin; (refine wpList_wanted (by rfl) ?_); (refine wpList_app_row rfl _ _ 41 rfl wr.heap.size 9 _ 1 16 Tryd.underlying41 info_strL rfl (by decide) _ 0 [] rfl HE9.out la na9 ca (Ra.map strB) rfl HRA9.out (ones_str _) ?c1 ?c2 ?c3 ?_))
            case c1 => simp only [maxLen]; omega
            case c2 => omega
            try (case c3 => simp)
            intro v7 w7 ho7 hb7 hg7
            try rw [Nat.zero_add, List.nil_append] at ho7
            have HO7 := Lib.hid ho7
            have HB7 := Lib.hid ((belAlloc (Below.refl wr.heap.size wr) (.cells #[] 9)).trans hb7)
            have HRB7 := Lib.hid (HB9.out.later HB7.out)
            clear ho7 hb7 hg7
            go_wp2_with (at_builtin; (refine wpList_wanted (by rfl) ?_); (refine wpList_app_row rfl _ _ 41 rfl wr.heap.size 9 _ 1 16 Tryd.underlying41 info_strL rfl (by decide) _ na9 (Ra.map strB) rfl HO7.out lb nb9 cb (Rb.map strB) rfl HRB7.out (ones_str _) ?d1 ?d2 ?d3 ?_))
            case d1 => simp only [maxLen]; omega
            case d2 => omega
            case d3 => exact HB7.out.size
            intro v8 w8 ho8 hb8 hg8
            rw [← List.map_append, ← HRC.out, HNX.out] at ho8
            have HB8 := Lib.hid (HB7.out.trans hb8)
            have HC8 := Lib.hid (HC9.out.later HB8.out)
            obtain ⟨va, vc, rfl, hrw⟩ := rowR_of_own ho8
            rw [strB_row] at HC8 hrw
            have CS := Lib.hid (sames_any lc va nc9 nc9 cc vc (Rc.map bA) (Rc.map bA) w8 (by rw [List.length_map]; exact HNc9.out) (by rw [List.length_map]; exact HNc9.out) HC8.out hrw)
            rw [same_refl] at CS
            have HBY := Lib.hid (belStep HBZ.out HB8.out)
            clear ho8 hb8 hg8 hrw
            go_wp2_with (go_at_call 19; (with_reducible refine (CS.out).mono ?_); rintro e9 ws ⟨rfl, hbs⟩; have HBs := Lib.hid (belStep HBY.out hbs); clear hbs)
            go_ret
            exact ⟨rfl, HBs.out⟩
          · have hc9 : ec = 1 ∧ nc9 = 0 := by
              rcases HSc.out with ⟨_, h⟩ | ⟨h1, _, h2⟩
              · rw [HEC.out, seq_noR hb2] at h; cases h
              · exact ⟨h1, h2⟩
            obtain ⟨rfl, rfl⟩ := hc9
            go_wp2
            go_ret
            exact ⟨rfl, HBZ.out⟩
        · have hc9 : ec = 1 ∧ nc9 = 0 := by
            rcases HSc.out with ⟨_, h⟩ | ⟨h1, _, h2⟩
            · rw [HEC.out, seq_noL ha2] at h; cases h
            · exact ⟨h1, h2⟩
          obtain ⟨rfl, rfl⟩ := hc9
          go_wp2
          go_ret
          exact ⟨rfl, HBZ.out⟩
theorem env_of {W : World} (h : laidMet Tryd.prog Rows.logPartsRow.laid W) (hs : W.ShapedOpen Tryd.prog) : Env W := env_of7 h hs

set_option maxRecDepth 100000 in
set_option maxRecDepth 100000 in
theorem lifted (os : Os) (started : os.Started) (H : Type) (enc : TypeId × Value → H) :
    ReturnsInHanded {} Tryd.checked os 8 .any (fun w args => (Rows.logPartsSpec.pre enc Tryd.prog Tryd.f8 [] false w args ∧ laidMetH Tryd.prog Rows.logPartsRow.laid w) ∧ sizedMet enc Tryd.prog Tryd.f8 (OpenSpec.ofChange Rows.logPartsSpec) false w args) (Rows.logPartsSpec.post enc Tryd.prog Tryd.f8 false true false false) := by
  refine returnsInHanded_of_change_and_shaped (C := Tryd.checked) (X := fun w _ => laidMetH Tryd.prog Rows.logPartsRow.laid w) (fun _ _ _ hh h => h.of_heap hh) own started (by kernel_rfl) Tryd.func8
    (ChangeSpec.witness_shaped (enc := enc) (C := Tryd.checked) (os := os) (X := fun w _ => laidMetH Tryd.prog Rows.logPartsRow.laid w) false (World.laidAll Tryd.prog os Rows.logPartsRow.laid) #[.slice none 0 0, .int .u8 0] 8 (World.laidAll_os _ _ _) (World.shaped_of_ZipB (by kernel_rfl) (by kernel_rfl)) (by kernel_rfl) (by kernel_rfl) (by kernel_rfl) (by rw [MakeChecks.laidMetH_plain _ _ _ (by kernel_rfl)]; exact laidMet_laidAll _ (by kernel_rfl) (by kernel_rfl))) ?_
  intro W base args ds gs before hval0 hW hL hsh
  rw [MakeChecks.laidMetH_plain _ _ _ (by kernel_rfl)] at hL
  have ht : Env W := env_of hL hsh
  clear hL
  have hval : ∀ (j : Nat) t v, Tryd.f8.params[j]? = some t → args[j]? = some v → Value.okWide Tryd.prog W .any base t v := hval0
  have hW' := hW
  obtain ⟨p, q, hA0, hV, rfl, hfz, hnd⟩ := hW
  have hA : DataW.TrodAll enc Tryd.prog W 0 (fun _ => true) true Tryd.f8.params.toList args.toList ds p := hA0
  rw [Tryd.params8] at hA hval
  obtain ⟨v0, vs0, d0, ds0, p0, q0, hargs, rfl, rfl, h0, r0⟩ := trodAll_cons hA
  obtain ⟨v1, vs1, d1, ds1, p1, q1, rfl, rfl, rfl, h1, r1⟩ := trodAll_cons r0
  obtain ⟨rfl, rfl, rfl⟩ := trodAll_nil r1
  obtain rfl : args = #[v0, v1] := by cases args; simp_all
  obtain ⟨rfl, rfl⟩ := trodVars_none hV
  have k0 := h0
  have lt0 : ∀ x ∈ p0, x.block < W.heap.size := by obtain ⟨m, hm⟩ := k0; exact DataW.trod_lt m _ _ _ hm
  have o0 : Value.okWide Tryd.prog W .any base 39 v0 := hval 0 39 v0 rfl rfl
  obtain ⟨a0, len0, cap0, L0, rfl, hl0, hG0, hR0⟩ := open_steps o0 h0
  have k1 := h1
  have lt1 : ∀ x ∈ p1, x.block < W.heap.size := by obtain ⟨m, hm⟩ := k1; exact DataW.trod_lt m _ _ _ hm
  have o1 : Value.okWide Tryd.prog W .any base 5 v1 := hval 1 5 v1 rfl rfl
  obtain ⟨a1, rfl, rfl, rfl, w1⟩ := open_int Tryd.underlying5 o1 h1
  clear hA0 hval0
  refine (walk a0 len0 cap0 L0 a1 W ht hl0 hG0 hR0 (in8_of_wf w1)).mono fun e W' ⟨he, bel⟩ => ?_
  subst he
  exact ⟨_, rfl, _, _, _, [], _, [], hW', trodAll_mk1 (shut_bool Tryd.underlying4 _), (trodAll_cons_mk (Below.trod laidOut (by kernel_rfl) (of_decide_eq_true (by kernel_rfl)) k0 bel lt0) (trodAll_cons_mk (Below.trod laidOut (by kernel_rfl) (of_decide_eq_true (by kernel_rfl)) k1 bel lt1) trodAll_mk0)), rfl, bel.frame _, fun h => by cases h⟩

theorem over : Rows.logPartsRow.holds Tryd.pinned (OpenSpec.ofChange Rows.logPartsSpec) :=
  OpenClaim.holds_of_wide 8 Tryd.f8 rfl rfl rfl rfl rfl rfl rfl ⟨rfl, rfl, rfl, rfl, rfl⟩ rfl rfl rfl rfl rfl (by kernel_rfl) Tryd.func8 (by kernel_rfl)
    (of_decide_eq_true (by kernel_rfl)) (by unfold Func.isWrapper; first | (rw [if_pos (by decide +kernel)]; kernel_rfl) | (rw [if_neg (by decide +kernel)]; exact ⟨rfl, rfl⟩))
    (fun os started H enc _ => lifted os started H enc)

/-- The statement. -/
theorem proved : Rows.LogPartsCardSaid :=
  Claim7.holds_tied_plain_at .later [] Rows.logPartsCard.laidKinds true Rows.logPartsCard.stood.harness true
    over (fun _ h => by cases h) (by kernel_rfl) (fun _ h => by cases h) logParts_row_tie rfl ⟨rfl, rfl⟩ (by kernel_rfl) rfl
    (fun f fn hf hfn => by
      obtain rfl : f = 8 := Option.some.inj ((show Tryd.prog.funcNamed Rows.logPartsRow.func = some 8 by kernel_rfl).symm.trans hf) |>.symm
      obtain rfl : fn = Tryd.f8 := (Option.some.inj (Tryd.func8.symm.trans hfn)).symm
      exact ⟨by kernel_rfl, fun j t ht => by
        rw [Tryd.params8] at ht
        have hm : t ∈ [39, 5] := by simpa using Array.mem_of_getElem? ht
        have hall : ([39, 5].all fun u => !Tryd.prog.wantsStandIn u) = true := by kernel_rfl
        exact (show Tryd.prog.wantsStandIn t = false by simpa using List.all_eq_true.1 hall t hm)⟩)
    (by kernel_rfl)
#print axioms proved

end Go.Proofs.YtekakalhknjdaaaDoor.logParts
