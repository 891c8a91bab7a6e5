
/- Stage 27: Line: contract. -/
import Derived.Test.YtekakalhknjdaaaDoorLg4
namespace Go.Proofs.YtekakalhknjdaaaDoor
open Go.RowKit
set_option linter.unusedVariables false
set_option linter.unusedSimpArgs false
theorem join_W (c : UInt8) : ∀ (R : List (List UInt8)), Lib.join R [c] = joinW c R
  | [] => rfl
  | [x] => Lib.join_one x [c]
  | x :: y :: r => by
    have ih := join_W c (y :: r)
    rw [Lib.join_cons] at ih
    rw [Lib.join_cons, joinW, ← ih]
    unfold Lib.joinTail
    simp
theorem bA_appE (X Y : List UInt8) : bA X ++ bA Y = bA (X ++ Y) := by
  refine ext_data ?_
  rw [ByteArray.data_append, Array.toList_append, bA_data, bA_data, bA_data]
/-- What Line answers: the text, and the error. -/
def lnS (r : Int) (e : EvV) : ByteArray := match lineE r e with | some s => bA s | none => ⟨#[]⟩
def lnE (r : Int) (e : EvV) : Int := match lineE r e with | some _ => 0 | none => 1
theorem ln_no {r : Int} {e : EvV} (h : lineE r e = none) : lnS r e = ⟨#[]⟩ ∧ lnE r e = 1 := by unfold lnS lnE; rw [h]; exact ⟨rfl, rfl⟩
theorem ln_yes {r : Int} {e : EvV} {s : List UInt8} (h : lineE r e = some s) : lnS r e = bA s ∧ lnE r e = 0 := by unfold lnS lnE; rw [h]; exact ⟨rfl, rfl⟩
theorem good_ne {e : EvV} (h : (writeW e).good = true) : (writeW e).F ≠ [] := by
  intro hF
  have hw := write_eq e
  rw [if_pos h, hF] at hw
  unfold fieldsE at hw
  split at hw
  · cases ht : tailE e with
    | none => rw [ht] at hw; cases hw
    | some t => rw [ht] at hw; simp at hw
  · cases hw
theorem itoa_dd {r : Int} (h : 0 ≤ r) : Lib.itoa r = Lib.decDigits r.toNat := by
  obtain ⟨m, rfl⟩ : ∃ m : Nat, r = m := ⟨r.toNat, by omega⟩
  rw [Lib.itoa_nonneg]; rfl
theorem join_all {r : Int} (h0 : 0 ≤ r) {F : List (List UInt8)} (hF : F ≠ []) : bA (Lib.itoa r) ++ ⟨#[32]⟩ ++ (⟨(Lib.join F [32]).toArray⟩ : ByteArray) = bA (joinW 32 (Lib.decDigits r.toNat :: F)) := by
  rw [join_W, itoa_dd h0, show (⟨(joinW 32 F).toArray⟩ : ByteArray) = bA (joinW 32 F) from rfl, show (⟨#[32]⟩ : ByteArray) = bA [32] from rfl, bA_appE, bA_appE]
  cases F with
  | nil => exact absurd rfl hF
  | cons x R => rw [joinW]; simp
set_option maxRecDepth 100000 in
set_option maxHeartbeats 16000000 in
theorem lg_Line (r : Int) (e : EvV) (w : World) (ht : ∀ u, Below w.heap.size w u → Tab u) (hr : InI r) (hs : e.id.size ≤ maxLen) (hn : InI e.n) :
    Calls Tryd.prog 11 #[.int .i64 r, .agg #[.int .i64 e.kind, .string e.id, .int .i64 e.sig, .int .i64 e.n]] w fun e0 w' => e0 = .returned (.tuple #[.string (lnS r e), .int .i64 (lnE r e)]) ∧ Below w.heap.size w w' := by
  have hw : Below w.heap.size w w := Below.refl _ _
  have hbel := hw
  have HT := Lib.hid ht
  have HR := Lib.hid hr
  have HNN := Lib.hid hn.2
  have CF := Lib.hid (fun u (hu : Below w.heap.size w u) => lg_fields e u (fun v hv => ht v (belStep hu hv)) hs hn)
  clear ht hr
  have HLW := Lib.hid (line_write r e)
  have HGN := Lib.hid (fun (h : (writeW e).good = true) => good_ne h)
  have HLN := Lib.hid (write_len e)
  clear hs hn
  obtain ⟨s, hsv⟩ : ∃ s, writeW e = s := ⟨_, rfl⟩
  have HSV := Lib.hid hsv
  rw [hsv] at HLW HGN HLN
  clear hsv
  go_enter Tryd.func11, Tryd.ntmps11
  go_upto_region 1 with fail
  have ee0 : (w.alloc (.cells #[.int .i64 e.kind, .string e.id, .int .i64 e.sig, .int .i64 e.n] 23)).cell? ⟨w.heap.size, 0, none⟩ = some (.int .i64 e.kind) := by first | (simp; done) | (rw [World.cell?_alloc_at _ _ _ _ (by simp)]; rfl) | (rw [World.cell?_alloc_past _ _ _ (by simp <;> omega), World.cell?_alloc_at _ _ _ _ (by simp)]; rfl) | (rw [World.cell?_alloc_past _ _ _ (by simp <;> omega), World.cell?_alloc_past _ _ _ (by simp <;> omega), World.cell?_alloc_at _ _ _ _ (by simp)]; rfl)
  have ee1 : (w.alloc (.cells #[.int .i64 e.kind, .string e.id, .int .i64 e.sig, .int .i64 e.n] 23)).cell? ⟨w.heap.size, 1, none⟩ = some (.string e.id) := by first | (simp; done) | (rw [World.cell?_alloc_at _ _ _ _ (by simp)]; rfl) | (rw [World.cell?_alloc_past _ _ _ (by simp <;> omega), World.cell?_alloc_at _ _ _ _ (by simp)]; rfl) | (rw [World.cell?_alloc_past _ _ _ (by simp <;> omega), World.cell?_alloc_past _ _ _ (by simp <;> omega), World.cell?_alloc_at _ _ _ _ (by simp)]; rfl)
  have ee2 : (w.alloc (.cells #[.int .i64 e.kind, .string e.id, .int .i64 e.sig, .int .i64 e.n] 23)).cell? ⟨w.heap.size, 2, none⟩ = some (.int .i64 e.sig) := by first | (simp; done) | (rw [World.cell?_alloc_at _ _ _ _ (by simp)]; rfl) | (rw [World.cell?_alloc_past _ _ _ (by simp <;> omega), World.cell?_alloc_at _ _ _ _ (by simp)]; rfl) | (rw [World.cell?_alloc_past _ _ _ (by simp <;> omega), World.cell?_alloc_past _ _ _ (by simp <;> omega), World.cell?_alloc_at _ _ _ _ (by simp)]; rfl)
  have ee3 : (w.alloc (.cells #[.int .i64 e.kind, .string e.id, .int .i64 e.sig, .int .i64 e.n] 23)).cell? ⟨w.heap.size, 3, none⟩ = some (.int .i64 e.n) := by first | (simp; done) | (rw [World.cell?_alloc_at _ _ _ _ (by simp)]; rfl) | (rw [World.cell?_alloc_past _ _ _ (by simp <;> omega), World.cell?_alloc_at _ _ _ _ (by simp)]; rfl) | (rw [World.cell?_alloc_past _ _ _ (by simp <;> omega), World.cell?_alloc_past _ _ _ (by simp <;> omega), World.cell?_alloc_at _ _ _ _ (by simp)]; rfl)
  have hb2 := (by repeat (first | exact hbel | refine belAlloc ?_ _ | refine belDrew ?_ | refine belSet ?_ _ _ (by simp)) : Below w.heap.size w (w.alloc (.cells #[.int .i64 e.kind, .string e.id, .int .i64 e.sig, .int .i64 e.n] 23)))
  replace hw := belStep hw hb2
  clear hb2 hbel
  generalize w.alloc (.cells #[.int .i64 e.kind, .string e.id, .int .i64 e.sig, .int .i64 e.n] 23) = W1 at *
  replace ee0 := keep ee0
  replace ee1 := keep ee1
  replace ee2 := keep ee2
  replace ee3 := keep ee3
  have hbel : Below W1.heap.size W1 W1 := Below.refl _ _
  skip
  have HW1 := Lib.hid hw
  clear hw
  go_upto_region 2 with (go_at_call 21; (with_reducible refine (CF.out _ HW1.out).mono ?_); rintro e0 w2 ⟨hfp, hb2⟩; rw [HSV.out] at hfp; obtain ⟨a, c, rfl, hown⟩ := hfp; have HO := Lib.hid hown; have HB2 := Lib.hid (belStep HW1.out hb2); clear hb2 hown CF)
  obtain ⟨g, hg⟩ : ∃ g, s.good = g := ⟨_, rfl⟩
  rw [hg] at HLW HGN
  have HG := Lib.hid hg
  rw [hg]
  clear hg
  clear hbel ee0 ee1 ee2 ee3
  cases g
  · have HNO := Lib.hid (ln_no (r := r) (e := e) (by rw [HLW.out, if_neg (fun q => by simp at q)]))
    go_wp2
    go_ret2
    rw [HNO.out.1, HNO.out.2]
    exact ⟨rfl, HB2.out⟩
  · by_cases h1 : r < 0
    · have t1 : decide (r < 0) = true := decide_eq_true h1
      have HNO := Lib.hid (ln_no (r := r) (e := e) (by rw [HLW.out, if_neg (fun q => by have := q.2.1; omega)]))
      go_wp2
      go_ret2
      rw [HNO.out.1, HNO.out.2]
      exact ⟨rfl, HB2.out⟩
    · have t1 : decide (r < 0) = false := decide_eq_false h1
      by_cases h2 : 1099511627776 < r
      · have t2 : decide ((1099511627776 : Int) < r) = true := decide_eq_true h2
        have HNO := Lib.hid (ln_no (r := r) (e := e) (by rw [HLW.out, if_neg (fun q => by have := q.2.2; omega)]))
        go_wp2
        go_ret2
        rw [HNO.out.1, HNO.out.2]
        exact ⟨rfl, HB2.out⟩
      · have t2 : decide ((1099511627776 : Int) < r) = false := decide_eq_false h2
        have h0 : 0 ≤ r := by omega
        have HYS := Lib.hid (ln_yes (r := r) (e := e) (by rw [HLW.out, if_pos ⟨rfl, h0, by omega⟩]))
        have HLL := Lib.hid (line_len (r := r) (e := e) (s := joinW 32 (Lib.decDigits r.toNat :: s.F.map (fun b => b.data.toList))) HNN.out (by rw [HLW.out, if_pos ⟨rfl, h0, by omega⟩]))
        have hFne := HGN.out rfl
        have HJA := Lib.hid (join_all h0 (F := s.F.map (fun b => b.data.toList)) (by simpa using hFne))
        rcases own_shape HO.out with ⟨_, h9⟩ | ⟨gx, cx, hsl, hgx, hgl, hx1, hx2⟩
        · exact absurd (List.eq_nil_of_length_eq_zero h9) hFne
        simp only [Value.slice.injEq, true_and] at hsl
        obtain ⟨rfl, rfl⟩ := hsl
        clear hFne
        have HJL := Lib.hid (show (Lib.join (s.F.map (fun b => b.data.toList)) [32]).length ≤ 200 from by rw [join_W]; have h := HLL.out; cases hq : s.F.map (fun b => b.data.toList) with | nil => simp [joinW] | cons x R => rw [hq] at h; rw [joinW, List.length_append, List.length_cons] at h; omega)
        have HIL := Lib.hid (show (bA (Lib.itoa r)).size ≤ 200 from by rw [bA_size, itoa_dd h0]; have h := HLL.out; cases hq : s.F.map (fun b => b.data.toList) with | nil => rw [hq] at h; exact h | cons x R => rw [hq] at h; rw [joinW, List.length_append, List.length_cons] at h; omega)
        have CI := Lib.hid (itoaW r HR.out w2 (HT.out w2 HB2.out))
        have CJ := Lib.hid (fun u (hu : Below w2.heap.size w2 u) => Tryd.strings_Join gx 0 c s.F ⟨#[32]⟩ u (fun j x hj => by rw [Nat.zero_add]; have hjl := (List.getElem?_eq_some_iff.1 hj).1; rw [World.ownsRow.cellAt (OwnR.later HO.out hu) j (by omega), List.getElem?_map, hj]; rfl) (Nat.lt_of_lt_of_le hgl hu.size) (by have := HLN.out; omega) hx1 (Nat.le_trans HJL.out (by decide)))
        obtain ⟨ti, hti⟩ : ∃ x, bA (Lib.itoa r) = x := ⟨_, rfl⟩
        rw [hti] at CI HJA HIL
        clear hti
        rw [show (⟨#[32]⟩ : ByteArray).data.toList = [32] from rfl] at CJ
        obtain ⟨tj, htj⟩ : ∃ x : ByteArray, (⟨(Lib.join (s.F.map (fun b => b.data.toList)) [32]).toArray⟩ : ByteArray) = x := ⟨_, rfl⟩
        have HTJ := Lib.hid (show tj.size ≤ 200 from by rw [← htj]; exact HJL.out)
        rw [htj] at CJ HJA
        clear htj
        have hil := HIL.out
        have hjl := HTJ.out
        have hcat1 : ¬ 9223372036854775807 < ti.size + 1 := by omega
        have hcat2 : ¬ 9223372036854775807 < ti.size + 1 + tj.size := by omega
        go_wp2_with (first | (go_at_call 22; (with_reducible refine (CI.out).mono ?_); rintro e1 w3 ⟨rfl, hb3⟩; have HB3 := Lib.hid hb3; clear hb3) | (go_at_call 23; (with_reducible refine (CJ.out _ HB3.out).mono ?_); rintro e1 w4 ⟨rfl, hb4⟩; have HB4 := Lib.hid (belStep HB3.out hb4); clear hb4))
        go_ret2
        rw [HYS.out.1, HYS.out.2]
        exact ⟨by rw [← HJA.out] <;> rfl, belStep HB2.out HB4.out⟩
end Go.Proofs.YtekakalhknjdaaaDoor
