
/- lex.Join: contract. -/
import Derived.Test.YtcaenbobfneejaaGreatDoorLexRM
import Derived.Test.YtcaenbobfneejaaGreatDoorLexB
import Derived.Deep.LoopGhost
namespace Go.Proofs.YtcaenbobfneejaaGreatDoor
open Go.RowKit
set_option linter.unusedVariables false
set_option linter.unusedSimpArgs false
/-- The fields' texts, one blank between. -/
def wordsF : Bool → List FldV → List UInt8
  | _, [] => []
  | b, f :: r => (if b then [] else [32]) ++ (f.text ++ wordsF false r)
/-- P4.2. -/
def joinF (LL : List (List FldV)) : List UInt8 := LL.flatMap (fun F => wordsF true F ++ [10])
theorem wordsF_app (b : Bool) (X Y : List FldV) : wordsF b (X ++ Y) = wordsF b X ++ wordsF (b && X.isEmpty) Y := by
  induction X generalizing b with
  | nil => simp [wordsF]
  | cons f r ih => simp [wordsF, ih, List.append_assoc]
theorem wordsF_take {k : Nat} {F : List FldV} {f : FldV} (h : F[k]? = some f) : wordsF true (F.take (k + 1)) = wordsF true (F.take k) ++ ((if k = 0 then [] else [32]) ++ f.text) := by
  have hk : k < F.length := (List.getElem?_eq_some_iff.1 h).1
  rw [List.take_add_one, h, wordsF_app]
  congr 1
  show wordsF (true && (F.take k).isEmpty) [f] = _
  cases k with
  | zero => simp [wordsF]
  | succ k =>
    cases F with
    | nil => simp at hk
    | cons x r => simp [wordsF]
theorem wordsF_le (k : Nat) (F : List FldV) : (wordsF true (F.take k)).length ≤ (wordsF true F).length := by
  have h := wordsF_app true (F.take k) (F.drop k)
  rw [List.take_append_drop] at h
  rw [h, List.length_append]; omega
theorem joinF_take {k : Nat} {LL : List (List FldV)} {F : List FldV} (h : LL[k]? = some F) : joinF (LL.take (k + 1)) = joinF (LL.take k) ++ (wordsF true F ++ [10]) := by
  unfold joinF
  rw [List.take_add_one, h, List.flatMap_append]
  simp
theorem joinF_app (X Y : List (List FldV)) : joinF (X ++ Y) = joinF X ++ joinF Y := by unfold joinF; rw [List.flatMap_append]
theorem joinF_le (k : Nat) (LL : List (List FldV)) : (joinF (LL.take k)).length ≤ (joinF LL).length := by
  have h := joinF_app (LL.take k) (LL.drop k)
  rw [List.take_append_drop] at h
  rw [h, List.length_append]; omega
theorem rows_at {w : World} {B : Nat} {g c : Nat} {LL : List (List FldV)} {vs : List Value} {k : Nat} (h : RowsF w B (.slice (some ⟨g, 0, none⟩) LL.length c) LL vs) {F : List FldV} (hk : LL[k]? = some F) : ∃ a n, w.cell? ⟨g, k, none⟩ = some (.slice a F.length n) ∧ OwnR w B 45 3 (.slice a F.length n) F.length (F.flatMap FldV.cells) := by
  have hlt : k < LL.length := (List.getElem?_eq_some_iff.1 hk).1
  have hl := h.len
  have hv : vs[k]? = some vs[k] := List.getElem?_eq_getElem (by omega)
  have hu := h.inn k F _ hk hv
  obtain ⟨a, n, e, _⟩ := rowR_of_own hu
  refine ⟨a, n, ?_, e ▸ hu⟩
  rw [World.ownsRow.cellAt h.out k (by omega), hv, e]
theorem fld_at {w : World} {B : Nat} {a : Option Addr} {n : Nat} {F : List FldV} {f : FldV} {k : Nat} (h : OwnR w B 45 3 (.slice a F.length n) F.length (F.flatMap FldV.cells)) (hk : F[k]? = some f) :
    ∃ g, a = some ⟨g, 0, none⟩ ∧ B ≤ g ∧ g < w.heap.size ∧ F.length ≤ 9223372036854775807 ∧ w.cell? ⟨g, k * 3, none⟩ = some (.string (bA f.text)) ∧ w.cell? ⟨g, k * 3 + 1, none⟩ = some (.int .i64 f.line) ∧ w.cell? ⟨g, k * 3 + 2, none⟩ = some (.int .i64 f.col) := by
  have hlt : k < F.length := (List.getElem?_eq_some_iff.1 hk).1
  rcases own_shape h with ⟨_, e⟩ | ⟨g, c, e, h1, h2, h3, h4⟩
  · omega
  obtain rfl : a = some ⟨g, 0, none⟩ := by simpa using (Value.slice.inj e).1
  have hc := fun j (hj : j < 3) => (World.ownsRow.cellAt h (k * 3 + j) (by omega)).trans (flat_cell (enc := FldV.cells) (sz := 3) FldV.cells_len hk hj)
  exact ⟨g, rfl, h1, h2, by omega, hc 0 (by omega), hc 1 (by omega), hc 2 (by omega)⟩
set_option maxRecDepth 100000 in
set_option maxHeartbeats 16000000 in
theorem lex_Join (B0 : Nat) (a : Option Addr) (cap : Nat) (LL : List (List FldV)) (vs : List Value) (w : World) (hR : RowsF w B0 (.slice a LL.length cap) LL vs) (hM : (joinF LL).length ≤ 140737488355328) :
    Calls Tryz.prog 25 #[.slice a LL.length cap] w fun e w' => e = .returned (.string (bA (joinF LL))) ∧ Below w.heap.size w w' := by
  have HR := Lib.hid hR
  have HM := Lib.hid hM
  have hw : Below w.heap.size w w := Below.refl _ _
  have hlen : LL.length ≤ 9223372036854775807 := by
    rcases own_shape hR.out with ⟨_, e⟩ | ⟨g, c, e, h1, h2, h3, h4⟩ <;> omega
  clear hR hM
  go_enter Tryz.func25, Tryz.ntmps25
  go_wp2
  have HB0 := Lib.hid (show Bld w.heap.size w.heap.size [] (w.alloc (.cells #[.pointer none, .slice none 0 0] 81)) from Lib.fresh_isBuilder _ _ w)
  have hbel := belAlloc hw (.cells #[.pointer none, .slice none 0 0] 81)
  have hsz : w.heap.size < (w.alloc (.cells #[.pointer none, .slice none 0 0] 81)).heap.size := by simp
  obtain ⟨b, hb⟩ : ∃ b, w.heap.size = b := ⟨_, rfl⟩
  have hB1 : w.heap.size ≤ b := by omega
  have HB1 := Lib.hid (show Bld w.heap.size b [] (w.alloc (.cells #[.pointer none, .slice none 0 0] 81)) from hb ▸ HB0.out)
  have HS1 := Lib.hid (show b < (w.alloc (.cells #[.pointer none, .slice none 0 0] 81)).heap.size by omega)
  rw [show (Value.pointer (some ⟨w.heap.size, 0, none⟩)) = .pointer (some ⟨b, 0, none⟩) by rw [hb]]
  clear hw HB0 hsz
  have HBE := Lib.hid hb
  clear hb
  generalize w.alloc (.cells #[.pointer none, .slice none 0 0] 81) = W1 at *
  have HBL := Lib.hid hbel
  clear hbel
  go_loopg [10] LL.length (fun g iv wr => ∃ k : Nat, k + g = LL.length ∧ iv = .int .i64 k ∧ Hid (Bld w.heap.size b (joinF (LL.take k)) wr) ∧ b < wr.heap.size ∧ Below w.heap.size w wr)
  case atStart => exact ⟨0, by omega, rfl, by rw [List.take_zero]; exact HB1, HS1.out, HBL.out⟩
  case round =>
    obtain ⟨k, hkg, rfl, HBK, hbs, hbel⟩ := hrel
    clear HB1 HBL HS1
    cases gk with
    | zero =>
      obtain rfl : k = LL.length := by omega
      have hd : decide ((LL.length : Int) < (LL.length : Int)) = false := decide_eq_false (by omega)
      have CS := Lib.hid (fun (h : w.heap.size ≤ wr.heap.size) => Tryz.Builder_String_any w.heap.size b (joinF (LL.take LL.length)) wr HBK.out h)
      rw [List.take_length] at CS
      have HWS := Lib.hid hbel
      go_wp2_with (go_at_call 47; (with_reducible refine (CS.out HWS.out.size).mono ?_); rintro e w2 ⟨rfl, hb2⟩)
      have HB2 := Lib.hid (HWS.out.trans hb2)
      clear hb2
      (try rw [Exit.noGoto_ret])
      go_ret
      exact ⟨rfl, HB2.out⟩
    | succ g =>
      have hlt : k < LL.length := by omega
      have hd : decide ((k : Int) < (LL.length : Int)) = true := decide_eq_true (by omega)
      have hki : (k : Int) < (LL.length : Int) := by omega
      have hk0 : (0 : Int) ≤ (k : Int) := by omega
      obtain ⟨og, oc, ea, _, _, _, _⟩ := HR.out.open (by omega)
      obtain rfl : a = some ⟨og, 0, none⟩ := by simpa using (Value.slice.inj ea).1
      clear ea
      obtain ⟨F, hF⟩ : ∃ F, LL[k]? = some F := ⟨LL[k], List.getElem?_eq_getElem hlt⟩
      obtain ⟨ra, rn, hrow, hown⟩ := rows_at HR.out hF
      have cr := keep hrow
      have HOWN := Lib.hid hown
      have HJ := Lib.hid (joinF_take hF)
      have hjl : (joinF (LL.take k)).length + (wordsF true F).length + 1 ≤ 140737488355328 := by
        have h1 := joinF_le (k + 1) LL
        rw [HJ.out] at h1
        simp only [List.length_append, List.length_cons, List.length_nil] at h1
        have := HM.out
        omega
      have hFl : F.length ≤ 9223372036854775807 := by
        rcases own_shape hown with ⟨_, e⟩ | ⟨g, c, e, h1, h2, h3, h4⟩ <;> omega
      clear hF hrow hown
      generalize joinF (LL.take k) = acc at *
      go_wp2
      have HBO := Lib.hid hbel
      have HSO := Lib.hid hbs
      generalize wr = WO at *
      clear hbel hbs
      go_loopg [16] F.length (fun g2 iv wr => ∃ j : Nat, j + g2 = F.length ∧ iv = .int .i64 j ∧ Hid (Bld w.heap.size b (acc ++ wordsF true (F.take j)) wr) ∧ b < wr.heap.size ∧ Below w.heap.size w wr)
      case atStart => exact ⟨0, by omega, rfl, by rw [List.take_zero]; show Hid (Bld w.heap.size b (acc ++ []) WO); rw [List.append_nil]; exact HBK, HSO.out, HBO.out⟩
      case round =>
        obtain ⟨j, hjg, rfl, HBJ, hbs, hbel⟩ := hrel
        clear HBK HSO HBO
        cases gk with
        | zero =>
          obtain rfl : j = F.length := by omega
          have hdj : decide ((F.length : Int) < (F.length : Int)) = false := decide_eq_false (by omega)
          rw [List.take_length] at HBJ
          have CB := Lib.hid (fun (h : w.heap.size ≤ wr.heap.size) => bld_byte1 w.heap.size b (acc ++ wordsF true F) 10 wr HBJ.out (by rw [List.length_append]; omega) h)
          rw [show ((10 : UInt8).toNat : Int) = 10 from rfl] at CB
          have HWS := Lib.hid hbel
          have HSS := Lib.hid hbs
          go_wp2_with (go_at_call 45; (with_reducible refine (CB.out HWS.out.size).mono ?_); rintro e w2 ⟨rfl, h2, hb2, ha2⟩)
          have HB2 := Lib.hid (HWS.out.trans hb2)
          have HS2 := Lib.hid (Nat.lt_of_lt_of_le HSS.out hb2.size)
          have H2 := Lib.hid h2
          clear h2 hb2 ha2
          go_roundg g
          case rel => exact ⟨k + 1, by omega, by push_cast; rfl, by rw [HJ.out, ← List.append_assoc]; exact Lib.hid (Or.inr H2.out), HS2.out, HB2.out⟩
          case measure => omega
        | succ g2 =>
          have hjlt : j < F.length := by omega
          have hdj : decide ((j : Int) < (F.length : Int)) = true := decide_eq_true (by omega)
          have hji : (j : Int) < (F.length : Int) := by omega
          have hj0 : (0 : Int) ≤ (j : Int) := by omega
          obtain ⟨f, hf⟩ : ∃ f, F[j]? = some f := ⟨F[j], List.getElem?_eq_getElem hjlt⟩
          have HT := Lib.hid (wordsF_take hf)
          have hle := wordsF_le (j + 1) F
          rw [HT.out] at hle
          simp only [List.length_append] at hle
          obtain ⟨fg, rfl, hfg1, hfg2, _, e0, e1, e2⟩ := fld_at HOWN.out hf
          have c0 := keep e0
          have c1 := keep e1
          have c2 := keep e2
          clear e0 e1 e2 hf
          generalize wordsF true (F.take j) = ws at *
          have HNB := Lib.hid (show wr.heap.size ≠ b by omega)
          have HWA := Lib.hid (belAlloc hbel (.cells #[.string (bA f.text), .int .i64 f.line, .int .i64 f.col] 45))
          have HSA := Lib.hid (show b < (wr.alloc (.cells #[.string (bA f.text), .int .i64 f.line, .int .i64 f.col] 45)).heap.size by simp; omega)
          have HBA := Lib.hid (HBJ.out.alloc (.cells #[.string (bA f.text), .int .i64 f.line, .int .i64 f.col] 45))
          have HK := Lib.hid (Blk.new wr [.string (bA f.text), .int .i64 f.line, .int .i64 f.col] 45)
          have HHB := Lib.hid (belAlloc (Below.refl wr.heap.size wr) (.cells #[.string (bA f.text), .int .i64 f.line, .int .i64 f.col] 45))
          by_cases hjz : j = 0
          · subst hjz
            have hdz : decide ((0 : Int) < (0 : Int)) = false := rfl
            rw [if_pos rfl] at hle HT
            simp only [List.length_nil] at hle
            rw [List.nil_append] at HT
            have CT := Lib.hid (bld_text w.heap.size b (acc ++ ws) f.text _ HBA.out (by rw [List.length_append]; omega) HWA.out.size)
            have d0 := HK.out.cell (j := 0) rfl
            go_wp2_with (go_at_call 46; (with_reducible refine (CT.out).mono ?_); rintro e w2 ⟨rfl, h2, hb2, ha2⟩; have HB2 := Lib.hid (HWA.out.trans hb2); have HS2 := Lib.hid (Nat.lt_of_lt_of_le HSA.out hb2.size); have H2 := Lib.hid h2; clear h2 hb2 ha2 d0)
            go_roundg g2
            case rel => exact ⟨0 + 1, by omega, by push_cast; rfl, by rw [HT.out, ← List.append_assoc]; exact Lib.hid (Or.inr H2.out), HS2.out, HB2.out⟩
            case measure => omega
          · have hdz : decide ((0 : Int) < (j : Int)) = true := decide_eq_true (by omega)
            have hjp : (0 : Int) < (j : Int) := by omega
            rw [if_neg hjz] at hle HT
            simp only [List.length_cons, List.length_nil] at hle
            have CB := Lib.hid (bld_byte1 w.heap.size b (acc ++ ws) 32 _ HBA.out (by rw [List.length_append]; omega) HWA.out.size)
            rw [show ((32 : UInt8).toNat : Int) = 32 from rfl] at CB
            go_wp2_with (go_at_call 45; (with_reducible refine (CB.out).mono ?_))
            rintro e w2 ⟨rfl, h2, hb2, ha2⟩
            have HK2 := Lib.hid (show Blk w2 wr.heap.size [.string (bA f.text), .int .i64 f.line, .int .i64 f.col] 45 from ha2 _ _ HNB.out HK.out (fun cs fr h => by simp at h))
            have HB2 := Lib.hid (HWA.out.trans hb2)
            have HS2 := Lib.hid (Nat.lt_of_lt_of_le HSA.out hb2.size)
            have CT := Lib.hid (bld_text w.heap.size b (acc ++ ws ++ [32]) f.text _ (Or.inr h2) (by simp only [List.length_append, List.length_cons, List.length_nil]; omega) HB2.out.size)
            have d0 := HK2.out.cell (j := 0) rfl
            clear h2 hb2 ha2
            go_wp2_with (go_at_call 46; (with_reducible refine (CT.out).mono ?_))
            rintro e w3 ⟨rfl, h3, hb3, ha3⟩
            have HB3 := Lib.hid (HB2.out.trans hb3)
            have HS3 := Lib.hid (Nat.lt_of_lt_of_le HS2.out hb3.size)
            have H3 := Lib.hid h3
            clear h3 hb3 ha3 d0
            go_wp2
            go_roundg g2
            case rel => exact ⟨j + 1, by omega, by push_cast; rfl, by rw [HT.out, ← List.append_assoc, ← List.append_assoc]; exact Lib.hid (Or.inr H3.out), HS3.out, HB3.out⟩
            case measure => omega
end Go.Proofs.YtcaenbobfneejaaGreatDoor
