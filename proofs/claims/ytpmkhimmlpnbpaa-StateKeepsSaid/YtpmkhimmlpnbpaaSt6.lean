
/- reader.entry: contract. -/
import Derived.Test.YtpmkhimmlpnbpaaSt5
namespace Go.Proofs.Ytpmkhimmlpnbpaa
open Go.RowKit
set_option linter.unusedVariables false
set_option linter.unusedSimpArgs false
theorem ent_ret (W : World) (R : Nat) (tm : Array Value) (x : EntV) (Q : Ending → World → Prop) (h2 : tm.getD 2 undef = .pointer (some ⟨R, 0, none⟩)) (hb : Blk W R x.cells 46) (hR : Q (.returned (.agg #[.string x.pod.id, .int .i64 x.pod.prio, .bool x.pod.crit, .int .i64 x.pod.r0, .int .i64 x.pod.r1, .int .i64 x.pod.r2, .int .i64 x.pod.l0, .int .i64 x.pod.l1, .int .i64 x.pod.l2, .string x.pod.img, .int .i64 x.pod.size, .int .i64 x.phase])) W) :
    bodyPost Try.prog Try.f40 Q Exit.ret { tmps := tm, defers := [] } W := by
  have z0 := hb.cell (j := 0) rfl
  have z1 := hb.cell (j := 1) rfl
  have z2 := hb.cell (j := 2) rfl
  have z3 := hb.cell (j := 3) rfl
  have z4 := hb.cell (j := 4) rfl
  have z5 := hb.cell (j := 5) rfl
  have z6 := hb.cell (j := 6) rfl
  have z7 := hb.cell (j := 7) rfl
  have z8 := hb.cell (j := 8) rfl
  have z9 := hb.cell (j := 9) rfl
  have z10 := hb.cell (j := 10) rfl
  have z11 := hb.cell (j := 11) rfl
  refine bodyPost_ret (v := .agg #[.string x.pod.id, .int .i64 x.pod.prio, .bool x.pod.crit, .int .i64 x.pod.r0, .int .i64 x.pod.r1, .int .i64 x.pod.r2, .int .i64 x.pod.l0, .int .i64 x.pod.l1, .int .i64 x.pod.l2, .string x.pod.img, .int .i64 x.pod.size, .int .i64 x.phase]) ?_ rfl hR
  simp only [Array.getD_eq_getD_getElem?] at h2
  simp [results, Try.results40, go_sem, h2, z0, z1, z2, z3, z4, z5, z6, z7, z8, z9, z10, z11]
/-- An entry, cut off the front. -/
def entF : List Int → Option (EntV × List Int)
  | [] => none
  | ph :: t => match cutF t with
    | none => none
    | some (p, r) => if rightB p then some (⟨p, ph⟩, r) else none
def EntP (RB : Nat) (X : List Nat) (l : List Int) (w : World) (e : Ending) (w' : World) : Prop :=
  ∃ x : EntV, e = .returned (.agg #[.string x.pod.id, .int .i64 x.pod.prio, .bool x.pod.crit, .int .i64 x.pod.r0, .int .i64 x.pod.r1, .int .i64 x.pod.r2, .int .i64 x.pod.l0, .int .i64 x.pod.l1, .int .i64 x.pod.l2, .string x.pod.img, .int .i64 x.pod.size, .int .i64 x.phase]) ∧ x.ok ∧ ((∃ r, entF l = some (x, r) ∧ RdS w' RB X r false) ∨ (entF l = none ∧ ∃ r, RdS w' RB X r true ∧ Bytes r)) ∧ FarB RB w w'
def zeroE (ph : Int) : EntV := ⟨zeroP, ph⟩
theorem zeroE_ok {ph : Int} (h : InI ph) : (zeroE ph).ok := by
  refine ⟨?_, h⟩
  have h2 : (⟨#[]⟩ : ByteArray).size ≤ maxLen := by unfold maxLen; decide
  unfold PodV.ok InI
  simp only [zeroE, zeroP]
  repeat' (first | exact h2 | omega | constructor)
set_option maxRecDepth 100000 in
set_option maxHeartbeats 16000000 in
theorem rd_entry (RB : Nat) (X : List Nat) (l : List Int) (w : World) (h : RdS w RB X l false) (hb : Bytes l) (hRB : RB < w.heap.size) (hX : ∀ M ∈ X, M < w.heap.size) :
    Calls Try.prog 40 #[.pointer (some ⟨RB, 0, none⟩)] w fun e w' => EntP RB X l w e w' := by
  unfold EntP
  have HXB := Lib.hid hX
  clear hX
  have hz := Blk.new w [.string ⟨#[]⟩, .int .i64 0, .bool false, .int .i64 0, .int .i64 0, .int .i64 0, .int .i64 0, .int .i64 0, .int .i64 0, .string ⟨#[]⟩, .int .i64 0, .int .i64 0] 46
  have hbA : Below w.heap.size w (w.alloc (.cells #[.string ⟨#[]⟩, .int .i64 0, .bool false, .int .i64 0, .int .i64 0, .int .i64 0, .int .i64 0, .int .i64 0, .int .i64 0, .string ⟨#[]⟩, .int .i64 0, .int .i64 0] 46)) := belAlloc (Below.refl _ _) _
  have C1 := Lib.hid (rd_one RB (w.heap.size :: X) l false _ ((h.more (Nat.le_refl _)).later hbA))
  have HA := Lib.hid hbA
  have HZ := Lib.hid (show Blk (w.alloc (.cells #[.string ⟨#[]⟩, .int .i64 0, .bool false, .int .i64 0, .int .i64 0, .int .i64 0, .int .i64 0, .int .i64 0, .int .i64 0, .string ⟨#[]⟩, .int .i64 0, .int .i64 0] 46)) w.heap.size [.string ⟨#[]⟩, .int .i64 0, .bool false, .int .i64 0, .int .i64 0, .int .i64 0, .int .i64 0, .int .i64 0, .int .i64 0, .string ⟨#[]⟩, .int .i64 0, .int .i64 0] 46 from hz)
  have hne : w.heap.size ≠ RB := by omega
  have hin : w.heap.size ∈ w.heap.size :: X := List.mem_cons_self
  clear h hz hbA
  cases l with
  | nil =>
    have C2 := Lib.hid (show Calls Try.prog 39 #[.pointer (some ⟨RB, 0, none⟩)] (w.alloc (.cells #[.string ⟨#[]⟩, .int .i64 0, .bool false, .int .i64 0, .int .i64 0, .int .i64 0, .int .i64 0, .int .i64 0, .int .i64 0, .string ⟨#[]⟩, .int .i64 0, .int .i64 0] 46)) fun e w' => e = .returned (.int .i64 0) ∧ RdS w' RB (w.heap.size :: X) [] true ∧ FarB RB (w.alloc (.cells #[.string ⟨#[]⟩, .int .i64 0, .bool false, .int .i64 0, .int .i64 0, .int .i64 0, .int .i64 0, .int .i64 0, .int .i64 0, .string ⟨#[]⟩, .int .i64 0, .int .i64 0] 46)) w' from C1.out)
    clear C1
    go_enter Try.func40, Try.ntmps40
    go_upto_region 2 with (go_at_call 39; (with_reducible refine (C2.out).mono ?_); rintro e w1 ⟨rfl, hR1, hF1⟩; have HR1 := Lib.hid hR1; have HF1 := Lib.hid hF1; clear hR1 hF1)
    obtain ⟨a1, n1, c1, hq1, _⟩ := HR1.out.ex
    have x1 := hq1.cell (j := 1) rfl
    have HB1 := Lib.hid (HF1.out.blk HZ.out hne)
    have z0 := HB1.out.cell (j := 0) rfl
    have z1 := HB1.out.cell (j := 1) rfl
    have z2 := HB1.out.cell (j := 2) rfl
    have z3 := HB1.out.cell (j := 3) rfl
    have z4 := HB1.out.cell (j := 4) rfl
    have z5 := HB1.out.cell (j := 5) rfl
    have z6 := HB1.out.cell (j := 6) rfl
    have z7 := HB1.out.cell (j := 7) rfl
    have z8 := HB1.out.cell (j := 8) rfl
    have z9 := HB1.out.cell (j := 9) rfl
    have z10 := HB1.out.cell (j := 10) rfl
    have z11 := HB1.out.cell (j := 11) rfl
    have zf := HB1.out.frozen
    have HFA := Lib.hid ((FarB.of_below (RB := RB) HA.out).trans HF1.out)
    clear hq1
    go_wp2
    refine ent_ret _ w.heap.size _ (zeroE 0) _ rfl ((((((((((((HB1.out.set 0 (.string ⟨#[]⟩)).set 1 (.int .i64 0)).set 2 (.bool false)).set 3 (.int .i64 0)).set 4 (.int .i64 0)).set 5 (.int .i64 0)).set 6 (.int .i64 0)).set 7 (.int .i64 0)).set 8 (.int .i64 0)).set 9 (.string ⟨#[]⟩)).set 10 (.int .i64 0)).set 11 (.int .i64 0)) ⟨zeroE 0, rfl, zeroE_ok (by unfold InI; omega), .inr ⟨rfl, [], RdS.less ((((((((((((HR1.out.far hin hne 0 (.string ⟨#[]⟩)).far hin hne 1 (.int .i64 0)).far hin hne 2 (.bool false)).far hin hne 3 (.int .i64 0)).far hin hne 4 (.int .i64 0)).far hin hne 5 (.int .i64 0)).far hin hne 6 (.int .i64 0)).far hin hne 7 (.int .i64 0)).far hin hne 8 (.int .i64 0)).far hin hne 9 (.string ⟨#[]⟩)).far hin hne 10 (.int .i64 0)).far hin hne 11 (.int .i64 0)), fun c hc => by cases hc⟩, ((((((((((((HFA.out.setNew (Nat.le_refl _) 0 (.string ⟨#[]⟩)).setNew (Nat.le_refl _) 1 (.int .i64 0)).setNew (Nat.le_refl _) 2 (.bool false)).setNew (Nat.le_refl _) 3 (.int .i64 0)).setNew (Nat.le_refl _) 4 (.int .i64 0)).setNew (Nat.le_refl _) 5 (.int .i64 0)).setNew (Nat.le_refl _) 6 (.int .i64 0)).setNew (Nat.le_refl _) 7 (.int .i64 0)).setNew (Nat.le_refl _) 8 (.int .i64 0)).setNew (Nat.le_refl _) 9 (.string ⟨#[]⟩)).setNew (Nat.le_refl _) 10 (.int .i64 0)).setNew (Nat.le_refl _) 11 (.int .i64 0))⟩
  | cons ph t =>
    have hph : 0 ≤ ph ∧ ph ≤ 255 := by have := hb ph List.mem_cons_self; simpa using this
    have hbt : Bytes t := fun c hc => hb c (List.mem_cons_of_mem _ hc)
    have C2 := Lib.hid (show Calls Try.prog 39 #[.pointer (some ⟨RB, 0, none⟩)] (w.alloc (.cells #[.string ⟨#[]⟩, .int .i64 0, .bool false, .int .i64 0, .int .i64 0, .int .i64 0, .int .i64 0, .int .i64 0, .int .i64 0, .string ⟨#[]⟩, .int .i64 0, .int .i64 0] 46)) fun e w' => e = .returned (.int .i64 ph) ∧ RdS w' RB (w.heap.size :: X) t false ∧ FarB RB (w.alloc (.cells #[.string ⟨#[]⟩, .int .i64 0, .bool false, .int .i64 0, .int .i64 0, .int .i64 0, .int .i64 0, .int .i64 0, .int .i64 0, .string ⟨#[]⟩, .int .i64 0, .int .i64 0] 46)) w' from C1.out)
    clear C1
    have HPI := Lib.hid (show InI ph by unfold InI; omega)
    have HBT := Lib.hid hbt
    clear hb hbt
    go_enter Try.func40, Try.ntmps40
    go_upto_region 2 with (go_at_call 39; (with_reducible refine (C2.out).mono ?_); rintro e w1 ⟨rfl, hR1, hF1⟩; have HR1 := Lib.hid hR1; have HF1 := Lib.hid hF1; clear hR1 hF1)
    obtain ⟨a1, n1, c1, hq1, hI1, hx1, hn1⟩ := HR1.out.ex
    have x0 := keep (hq1.cell (j := 0) rfl)
    have x1 := keep (hq1.cell (j := 1) rfl)
    have HQ1 := Lib.hid hq1
    have HI1 := Lib.hid hI1
    have HB1 := Lib.hid (HF1.out.blk HZ.out hne)
    have HFA := Lib.hid ((FarB.of_below (RB := RB) HA.out).trans HF1.out)
    have hs1 : w.heap.size < w1.heap.size := HB1.out.lt
    clear hq1 hI1 hx1
    have hbel : Below w1.heap.size w1 w1 := Below.refl _ _
    have y0 := x0 w1 hbel
    have y1 := x1 w1 hbel
    go_upto_region 4 with fail
    clear y0
    have y0 := x0 w1 hbel
    cases hcf : cutF t with
    | none =>
      have HEF := Lib.hid (show entF (ph :: t) = none by unfold entF; simp [hcf])
      have CN := Lib.hid (show Calls Try.prog 53 #[.slice a1 n1 c1] w1 fun e w' => e = .returned (.tuple #[.agg #[.string ⟨#[]⟩, .int .i64 0, .bool false, .int .i64 0, .int .i64 0, .int .i64 0, .int .i64 0, .int .i64 0, .int .i64 0, .string ⟨#[]⟩, .int .i64 0], .slice none 0 0, .int .i64 3]) ∧ Below w1.heap.size w1 w' from pod_Cut_no a1 n1 c1 t w1 HI1.out (by omega) hcf)
      clear hcf
      go_upto_region 5 with (go_at_call 53; (with_reducible refine (CN.out).mono ?_); rintro e w2 ⟨rfl, hbp⟩)
      have hb2 := hbp
      have HQ2 := Lib.hid (HQ1.out.later hb2)
      have HB2 := Lib.hid (HB1.out.later hb2)
      have HF2 := Lib.hid (HFA.out.trans (FarB.of_below hb2))
      have hs2 := hb2.size
      clear hbp hb2 hbel y0 y1 x0 x1
      have hB3 := Blk.new w2 [.string ⟨#[]⟩, .int .i64 0, .bool false, .int .i64 0, .int .i64 0, .int .i64 0, .int .i64 0, .int .i64 0, .int .i64 0, .string ⟨#[]⟩, .int .i64 0] 44
      have hb3 : Below w2.heap.size w2 (w2.alloc (.cells #[.string ⟨#[]⟩, .int .i64 0, .bool false, .int .i64 0, .int .i64 0, .int .i64 0, .int .i64 0, .int .i64 0, .int .i64 0, .string ⟨#[]⟩, .int .i64 0] 44)) := belAlloc (Below.refl _ _) _
      have HB3 := Lib.hid (show Blk (w2.alloc (.cells #[.string ⟨#[]⟩, .int .i64 0, .bool false, .int .i64 0, .int .i64 0, .int .i64 0, .int .i64 0, .int .i64 0, .int .i64 0, .string ⟨#[]⟩, .int .i64 0] 44)) w2.heap.size [.string ⟨#[]⟩, .int .i64 0, .bool false, .int .i64 0, .int .i64 0, .int .i64 0, .int .i64 0, .int .i64 0, .int .i64 0, .string ⟨#[]⟩, .int .i64 0] 44 from hB3)
      have HQ3 := Lib.hid (HQ2.out.later hb3)
      have HR3 := Lib.hid (HB2.out.later hb3)
      have HF3 := Lib.hid (HF2.out.trans (FarB.of_below hb3))
      clear hB3 hb3
      generalize w2.alloc (.cells #[.string ⟨#[]⟩, .int .i64 0, .bool false, .int .i64 0, .int .i64 0, .int .i64 0, .int .i64 0, .int .i64 0, .int .i64 0, .string ⟨#[]⟩, .int .i64 0] 44) = w3 at *
      have x0 := HQ3.out.cell (j := 0) rfl
      have x1 := HQ3.out.cell (j := 1) rfl
      have xf := HQ3.out.frozen
      go_upto_region 6 with fail
      have HQ4 := Lib.hid ((HQ3.out.set 0 (.slice none 0 0)).set 1 (.bool true))
      have HB4 := Lib.hid ((HB3.out.far (a := ⟨RB, 0, none⟩) (show RB ≠ w2.heap.size by omega) (.slice none 0 0)).far (a := ⟨RB, 1, none⟩) (show RB ≠ w2.heap.size by omega) (.bool true))
      have HR4 := Lib.hid ((HR3.out.far (a := ⟨RB, 0, none⟩) (show RB ≠ w.heap.size by omega) (.slice none 0 0)).far (a := ⟨RB, 1, none⟩) (show RB ≠ w.heap.size by omega) (.bool true))
      have HF4 := Lib.hid ((HF3.out.set 0 (.slice none 0 0)).set 1 (.bool true))
      clear x0 x1 xf HQ3 HB3 HR3
      generalize (w3.setCell ⟨RB, 0, none⟩ (.slice none 0 0)).setCell ⟨RB, 1, none⟩ (.bool true) = w4 at *
      have p0 := HB4.out.cell (j := 0) rfl
      have p1 := HB4.out.cell (j := 1) rfl
      have p2 := HB4.out.cell (j := 2) rfl
      have p3 := HB4.out.cell (j := 3) rfl
      have p4 := HB4.out.cell (j := 4) rfl
      have p5 := HB4.out.cell (j := 5) rfl
      have p6 := HB4.out.cell (j := 6) rfl
      have p7 := HB4.out.cell (j := 7) rfl
      have p8 := HB4.out.cell (j := 8) rfl
      have p9 := HB4.out.cell (j := 9) rfl
      have p10 := HB4.out.cell (j := 10) rfl
      have z0 := HR4.out.cell (j := 0) rfl
      have z1 := HR4.out.cell (j := 1) rfl
      have z2 := HR4.out.cell (j := 2) rfl
      have z3 := HR4.out.cell (j := 3) rfl
      have z4 := HR4.out.cell (j := 4) rfl
      have z5 := HR4.out.cell (j := 5) rfl
      have z6 := HR4.out.cell (j := 6) rfl
      have z7 := HR4.out.cell (j := 7) rfl
      have z8 := HR4.out.cell (j := 8) rfl
      have z9 := HR4.out.cell (j := 9) rfl
      have z10 := HR4.out.cell (j := 10) rfl
      have z11 := HR4.out.cell (j := 11) rfl
      have zf := HR4.out.frozen
      have HRD := Lib.hid (show RdS w4 RB (w.heap.size :: X) [] true from ⟨⟨none, 0, 0, HQ4.out, ints_nil _ _, .inl rfl, by omega⟩⟩)
      go_wp2
      refine ent_ret _ w.heap.size _ (zeroE ph) _ rfl ((((((((((((HR4.out.set 0 (.string ⟨#[]⟩)).set 1 (.int .i64 0)).set 2 (.bool false)).set 3 (.int .i64 0)).set 4 (.int .i64 0)).set 5 (.int .i64 0)).set 6 (.int .i64 0)).set 7 (.int .i64 0)).set 8 (.int .i64 0)).set 9 (.string ⟨#[]⟩)).set 10 (.int .i64 0)).set 11 (.int .i64 ph)) ⟨(zeroE ph), rfl, zeroE_ok HPI.out, .inr ⟨HEF.out, [], RdS.less ((((((((((((HRD.out.far hin hne 0 (.string ⟨#[]⟩)).far hin hne 1 (.int .i64 0)).far hin hne 2 (.bool false)).far hin hne 3 (.int .i64 0)).far hin hne 4 (.int .i64 0)).far hin hne 5 (.int .i64 0)).far hin hne 6 (.int .i64 0)).far hin hne 7 (.int .i64 0)).far hin hne 8 (.int .i64 0)).far hin hne 9 (.string ⟨#[]⟩)).far hin hne 10 (.int .i64 0)).far hin hne 11 (.int .i64 ph)), fun c hc => by cases hc⟩, ((((((((((((HF4.out.setNew (Nat.le_refl _) 0 (.string ⟨#[]⟩)).setNew (Nat.le_refl _) 1 (.int .i64 0)).setNew (Nat.le_refl _) 2 (.bool false)).setNew (Nat.le_refl _) 3 (.int .i64 0)).setNew (Nat.le_refl _) 4 (.int .i64 0)).setNew (Nat.le_refl _) 5 (.int .i64 0)).setNew (Nat.le_refl _) 6 (.int .i64 0)).setNew (Nat.le_refl _) 7 (.int .i64 0)).setNew (Nat.le_refl _) 8 (.int .i64 0)).setNew (Nat.le_refl _) 9 (.string ⟨#[]⟩)).setNew (Nat.le_refl _) 10 (.int .i64 0)).setNew (Nat.le_refl _) 11 (.int .i64 ph))⟩
    | some pr =>
      obtain ⟨p, r⟩ := pr
      cases hrp : rightB p with
      | false =>
        have HEF := Lib.hid (show entF (ph :: t) = none by unfold entF; simp [hcf, hrp])
        have CN := Lib.hid (show Calls Try.prog 53 #[.slice a1 n1 c1] w1 fun e w' => e = .returned (.tuple #[.agg #[.string ⟨#[]⟩, .int .i64 0, .bool false, .int .i64 0, .int .i64 0, .int .i64 0, .int .i64 0, .int .i64 0, .int .i64 0, .string ⟨#[]⟩, .int .i64 0], .slice none 0 0, .int .i64 3]) ∧ Below w1.heap.size w1 w' from pod_Cut_bad a1 n1 c1 t w1 HI1.out (by omega) p r hcf hrp)
        clear hcf hrp
        go_upto_region 5 with (go_at_call 53; (with_reducible refine (CN.out).mono ?_); rintro e w2 ⟨rfl, hbp⟩)
        have hb2 := hbp
        have HQ2 := Lib.hid (HQ1.out.later hb2)
        have HB2 := Lib.hid (HB1.out.later hb2)
        have HF2 := Lib.hid (HFA.out.trans (FarB.of_below hb2))
        have hs2 := hb2.size
        clear hbp hb2 hbel y0 y1 x0 x1
        have hB3 := Blk.new w2 [.string ⟨#[]⟩, .int .i64 0, .bool false, .int .i64 0, .int .i64 0, .int .i64 0, .int .i64 0, .int .i64 0, .int .i64 0, .string ⟨#[]⟩, .int .i64 0] 44
        have hb3 : Below w2.heap.size w2 (w2.alloc (.cells #[.string ⟨#[]⟩, .int .i64 0, .bool false, .int .i64 0, .int .i64 0, .int .i64 0, .int .i64 0, .int .i64 0, .int .i64 0, .string ⟨#[]⟩, .int .i64 0] 44)) := belAlloc (Below.refl _ _) _
        have HB3 := Lib.hid (show Blk (w2.alloc (.cells #[.string ⟨#[]⟩, .int .i64 0, .bool false, .int .i64 0, .int .i64 0, .int .i64 0, .int .i64 0, .int .i64 0, .int .i64 0, .string ⟨#[]⟩, .int .i64 0] 44)) w2.heap.size [.string ⟨#[]⟩, .int .i64 0, .bool false, .int .i64 0, .int .i64 0, .int .i64 0, .int .i64 0, .int .i64 0, .int .i64 0, .string ⟨#[]⟩, .int .i64 0] 44 from hB3)
        have HQ3 := Lib.hid (HQ2.out.later hb3)
        have HR3 := Lib.hid (HB2.out.later hb3)
        have HF3 := Lib.hid (HF2.out.trans (FarB.of_below hb3))
        clear hB3 hb3
        generalize w2.alloc (.cells #[.string ⟨#[]⟩, .int .i64 0, .bool false, .int .i64 0, .int .i64 0, .int .i64 0, .int .i64 0, .int .i64 0, .int .i64 0, .string ⟨#[]⟩, .int .i64 0] 44) = w3 at *
        have x0 := HQ3.out.cell (j := 0) rfl
        have x1 := HQ3.out.cell (j := 1) rfl
        have xf := HQ3.out.frozen
        go_upto_region 6 with fail
        have HQ4 := Lib.hid ((HQ3.out.set 0 (.slice none 0 0)).set 1 (.bool true))
        have HB4 := Lib.hid ((HB3.out.far (a := ⟨RB, 0, none⟩) (show RB ≠ w2.heap.size by omega) (.slice none 0 0)).far (a := ⟨RB, 1, none⟩) (show RB ≠ w2.heap.size by omega) (.bool true))
        have HR4 := Lib.hid ((HR3.out.far (a := ⟨RB, 0, none⟩) (show RB ≠ w.heap.size by omega) (.slice none 0 0)).far (a := ⟨RB, 1, none⟩) (show RB ≠ w.heap.size by omega) (.bool true))
        have HF4 := Lib.hid ((HF3.out.set 0 (.slice none 0 0)).set 1 (.bool true))
        clear x0 x1 xf HQ3 HB3 HR3
        generalize (w3.setCell ⟨RB, 0, none⟩ (.slice none 0 0)).setCell ⟨RB, 1, none⟩ (.bool true) = w4 at *
        have p0 := HB4.out.cell (j := 0) rfl
        have p1 := HB4.out.cell (j := 1) rfl
        have p2 := HB4.out.cell (j := 2) rfl
        have p3 := HB4.out.cell (j := 3) rfl
        have p4 := HB4.out.cell (j := 4) rfl
        have p5 := HB4.out.cell (j := 5) rfl
        have p6 := HB4.out.cell (j := 6) rfl
        have p7 := HB4.out.cell (j := 7) rfl
        have p8 := HB4.out.cell (j := 8) rfl
        have p9 := HB4.out.cell (j := 9) rfl
        have p10 := HB4.out.cell (j := 10) rfl
        have z0 := HR4.out.cell (j := 0) rfl
        have z1 := HR4.out.cell (j := 1) rfl
        have z2 := HR4.out.cell (j := 2) rfl
        have z3 := HR4.out.cell (j := 3) rfl
        have z4 := HR4.out.cell (j := 4) rfl
        have z5 := HR4.out.cell (j := 5) rfl
        have z6 := HR4.out.cell (j := 6) rfl
        have z7 := HR4.out.cell (j := 7) rfl
        have z8 := HR4.out.cell (j := 8) rfl
        have z9 := HR4.out.cell (j := 9) rfl
        have z10 := HR4.out.cell (j := 10) rfl
        have z11 := HR4.out.cell (j := 11) rfl
        have zf := HR4.out.frozen
        have HRD := Lib.hid (show RdS w4 RB (w.heap.size :: X) [] true from ⟨⟨none, 0, 0, HQ4.out, ints_nil _ _, .inl rfl, by omega⟩⟩)
        go_wp2
        refine ent_ret _ w.heap.size _ (zeroE ph) _ rfl ((((((((((((HR4.out.set 0 (.string ⟨#[]⟩)).set 1 (.int .i64 0)).set 2 (.bool false)).set 3 (.int .i64 0)).set 4 (.int .i64 0)).set 5 (.int .i64 0)).set 6 (.int .i64 0)).set 7 (.int .i64 0)).set 8 (.int .i64 0)).set 9 (.string ⟨#[]⟩)).set 10 (.int .i64 0)).set 11 (.int .i64 ph)) ⟨(zeroE ph), rfl, zeroE_ok HPI.out, .inr ⟨HEF.out, [], RdS.less ((((((((((((HRD.out.far hin hne 0 (.string ⟨#[]⟩)).far hin hne 1 (.int .i64 0)).far hin hne 2 (.bool false)).far hin hne 3 (.int .i64 0)).far hin hne 4 (.int .i64 0)).far hin hne 5 (.int .i64 0)).far hin hne 6 (.int .i64 0)).far hin hne 7 (.int .i64 0)).far hin hne 8 (.int .i64 0)).far hin hne 9 (.string ⟨#[]⟩)).far hin hne 10 (.int .i64 0)).far hin hne 11 (.int .i64 ph)), fun c hc => by cases hc⟩, ((((((((((((HF4.out.setNew (Nat.le_refl _) 0 (.string ⟨#[]⟩)).setNew (Nat.le_refl _) 1 (.int .i64 0)).setNew (Nat.le_refl _) 2 (.bool false)).setNew (Nat.le_refl _) 3 (.int .i64 0)).setNew (Nat.le_refl _) 4 (.int .i64 0)).setNew (Nat.le_refl _) 5 (.int .i64 0)).setNew (Nat.le_refl _) 6 (.int .i64 0)).setNew (Nat.le_refl _) 7 (.int .i64 0)).setNew (Nat.le_refl _) 8 (.int .i64 0)).setNew (Nat.le_refl _) 9 (.string ⟨#[]⟩)).setNew (Nat.le_refl _) 10 (.int .i64 0)).setNew (Nat.le_refl _) 11 (.int .i64 ph))⟩
      | true =>
        have hpo := cutF_ok (by have := HI1.out.bounds; omega) hcf
        have HEF := Lib.hid (show entF (ph :: t) = some (⟨p, ph⟩, r) by unfold entF; simp [hcf, hrp])
        have HBR := Lib.hid (show Bytes r from fun c hc => HBT.out c (by rw [cutF_inv HBT.out hcf]; exact List.mem_append_right _ hc))
        have HRL := Lib.hid (show r.length ≤ 100000 by have h1 := HI1.out.bounds; have h2 := congrArg List.length (cutF_inv HBT.out hcf); rw [List.length_append] at h2; omega)
        have HPO := Lib.hid hpo
        have CN := Lib.hid (show Calls Try.prog 53 #[.slice a1 n1 c1] w1 fun e w' => ∃ v, e = .returned (.tuple #[.agg #[.string p.id, .int .i64 p.prio, .bool p.crit, .int .i64 p.r0, .int .i64 p.r1, .int .i64 p.r2, .int .i64 p.l0, .int .i64 p.l1, .int .i64 p.l2, .string p.img, .int .i64 p.size], v, .int .i64 0]) ∧ OwnI w' w1.heap.size 5 .u8 v r ∧ Below w1.heap.size w1 w' from pod_Cut a1 n1 c1 t w1 HI1.out (by omega) p r hcf hrp)
        clear hcf hpo
        go_upto_region 5 with (go_at_call 53; (with_reducible refine (CN.out).mono ?_); rintro e w2 ⟨lv, rfl, hown, hbp⟩; have HOW := Lib.hid hown; clear hown)
        have hb2 := hbp
        have HQ2 := Lib.hid (HQ1.out.later hb2)
        have HB2 := Lib.hid (HB1.out.later hb2)
        have HF2 := Lib.hid (HFA.out.trans (FarB.of_below hb2))
        have hs2 := hb2.size
        have hown := HOW.out
        have hlx : ∃ a2 n2 c2, lv = .slice a2 n2 c2 ∧ Ints .u8 w2 a2 n2 c2 r ∧ n2 ≤ 100000 ∧ (∀ x, a2 = some x → w1.heap.size ≤ x.block) := by
          obtain ⟨a2, c2, e2, hi2⟩ := ints_of_own hown (fun m hm => wf8 m (HBR.out m hm))
          refine ⟨a2, r.length, c2, e2, hi2, HRL.out, fun x hx => ?_⟩
          subst hx
          subst e2
          rcases hown.shape with ⟨e3, _⟩ | ⟨g, cp, e3, h1, _⟩
          · cases e3
          · simp only [Value.slice.injEq, Option.some.injEq] at e3; rw [e3.1]; exact h1
        obtain ⟨a2, n2, c2, rfl, hi2, hn2, hlo⟩ := hlx
        have HI2 := Lib.hid hi2
        have HLO := Lib.hid hlo
        clear hown hi2 hlo
        clear hbp hb2 hbel y0 y1 x0 x1
        have hB3 := Blk.new w2 [.string p.id, .int .i64 p.prio, .bool p.crit, .int .i64 p.r0, .int .i64 p.r1, .int .i64 p.r2, .int .i64 p.l0, .int .i64 p.l1, .int .i64 p.l2, .string p.img, .int .i64 p.size] 44
        have hb3 : Below w2.heap.size w2 (w2.alloc (.cells #[.string p.id, .int .i64 p.prio, .bool p.crit, .int .i64 p.r0, .int .i64 p.r1, .int .i64 p.r2, .int .i64 p.l0, .int .i64 p.l1, .int .i64 p.l2, .string p.img, .int .i64 p.size] 44)) := belAlloc (Below.refl _ _) _
        have HB3 := Lib.hid (show Blk (w2.alloc (.cells #[.string p.id, .int .i64 p.prio, .bool p.crit, .int .i64 p.r0, .int .i64 p.r1, .int .i64 p.r2, .int .i64 p.l0, .int .i64 p.l1, .int .i64 p.l2, .string p.img, .int .i64 p.size] 44)) w2.heap.size [.string p.id, .int .i64 p.prio, .bool p.crit, .int .i64 p.r0, .int .i64 p.r1, .int .i64 p.r2, .int .i64 p.l0, .int .i64 p.l1, .int .i64 p.l2, .string p.img, .int .i64 p.size] 44 from hB3)
        have HQ3 := Lib.hid (HQ2.out.later hb3)
        have HR3 := Lib.hid (HB2.out.later hb3)
        have HF3 := Lib.hid (HF2.out.trans (FarB.of_below hb3))
        have HI3 := Lib.hid (HI2.out.later hb3)
        clear hB3 hb3
        generalize w2.alloc (.cells #[.string p.id, .int .i64 p.prio, .bool p.crit, .int .i64 p.r0, .int .i64 p.r1, .int .i64 p.r2, .int .i64 p.l0, .int .i64 p.l1, .int .i64 p.l2, .string p.img, .int .i64 p.size] 44) = w3 at *
        have x0 := HQ3.out.cell (j := 0) rfl
        have x1 := HQ3.out.cell (j := 1) rfl
        have xf := HQ3.out.frozen
        go_upto_region 6 with fail
        have HQ4 := Lib.hid ((HQ3.out.set 0 (.slice a2 n2 c2)).set 1 (.bool false))
        have HB4 := Lib.hid ((HB3.out.far (a := ⟨RB, 0, none⟩) (show RB ≠ w2.heap.size by omega) (.slice a2 n2 c2)).far (a := ⟨RB, 1, none⟩) (show RB ≠ w2.heap.size by omega) (.bool false))
        have HR4 := Lib.hid ((HR3.out.far (a := ⟨RB, 0, none⟩) (show RB ≠ w.heap.size by omega) (.slice a2 n2 c2)).far (a := ⟨RB, 1, none⟩) (show RB ≠ w.heap.size by omega) (.bool false))
        have HF4 := Lib.hid ((HF3.out.set 0 (.slice a2 n2 c2)).set 1 (.bool false))
        have HI4 := Lib.hid (Ints.setFar (Ints.setFar HI3.out (p := ⟨RB, 0, none⟩) (fun x hx => by have := HLO.out x hx; show x.block ≠ RB; omega) (.slice a2 n2 c2)) (p := ⟨RB, 1, none⟩) (fun x hx => by have := HLO.out x hx; show x.block ≠ RB; omega) (.bool false))
        clear x0 x1 xf HQ3 HB3 HR3
        generalize (w3.setCell ⟨RB, 0, none⟩ (.slice a2 n2 c2)).setCell ⟨RB, 1, none⟩ (.bool false) = w4 at *
        have p0 := HB4.out.cell (j := 0) rfl
        have p1 := HB4.out.cell (j := 1) rfl
        have p2 := HB4.out.cell (j := 2) rfl
        have p3 := HB4.out.cell (j := 3) rfl
        have p4 := HB4.out.cell (j := 4) rfl
        have p5 := HB4.out.cell (j := 5) rfl
        have p6 := HB4.out.cell (j := 6) rfl
        have p7 := HB4.out.cell (j := 7) rfl
        have p8 := HB4.out.cell (j := 8) rfl
        have p9 := HB4.out.cell (j := 9) rfl
        have p10 := HB4.out.cell (j := 10) rfl
        have z0 := HR4.out.cell (j := 0) rfl
        have z1 := HR4.out.cell (j := 1) rfl
        have z2 := HR4.out.cell (j := 2) rfl
        have z3 := HR4.out.cell (j := 3) rfl
        have z4 := HR4.out.cell (j := 4) rfl
        have z5 := HR4.out.cell (j := 5) rfl
        have z6 := HR4.out.cell (j := 6) rfl
        have z7 := HR4.out.cell (j := 7) rfl
        have z8 := HR4.out.cell (j := 8) rfl
        have z9 := HR4.out.cell (j := 9) rfl
        have z10 := HR4.out.cell (j := 10) rfl
        have z11 := HR4.out.cell (j := 11) rfl
        have zf := HR4.out.frozen
        have HRD := Lib.hid (show RdS w4 RB (w.heap.size :: X) r false from ⟨⟨a2, n2, c2, HQ4.out, HI4.out, .inr (fun x hx => ⟨by have := HLO.out x hx; omega, fun hm => by have h1 := HLO.out x hx; rcases List.mem_cons.1 hm with e | e; omega; have h2 := HXB.out _ e; omega⟩), hn2⟩⟩)
        go_wp2
        refine ent_ret _ w.heap.size _ (⟨p, ph⟩ : EntV) _ rfl ((((((((((((HR4.out.set 0 (.string p.id)).set 1 (.int .i64 p.prio)).set 2 (.bool p.crit)).set 3 (.int .i64 p.r0)).set 4 (.int .i64 p.r1)).set 5 (.int .i64 p.r2)).set 6 (.int .i64 p.l0)).set 7 (.int .i64 p.l1)).set 8 (.int .i64 p.l2)).set 9 (.string p.img)).set 10 (.int .i64 p.size)).set 11 (.int .i64 ph)) ⟨(⟨p, ph⟩ : EntV), rfl, ⟨HPO.out, HPI.out⟩, .inl ⟨r, HEF.out, RdS.less ((((((((((((HRD.out.far hin hne 0 (.string p.id)).far hin hne 1 (.int .i64 p.prio)).far hin hne 2 (.bool p.crit)).far hin hne 3 (.int .i64 p.r0)).far hin hne 4 (.int .i64 p.r1)).far hin hne 5 (.int .i64 p.r2)).far hin hne 6 (.int .i64 p.l0)).far hin hne 7 (.int .i64 p.l1)).far hin hne 8 (.int .i64 p.l2)).far hin hne 9 (.string p.img)).far hin hne 10 (.int .i64 p.size)).far hin hne 11 (.int .i64 ph))⟩, ((((((((((((HF4.out.setNew (Nat.le_refl _) 0 (.string p.id)).setNew (Nat.le_refl _) 1 (.int .i64 p.prio)).setNew (Nat.le_refl _) 2 (.bool p.crit)).setNew (Nat.le_refl _) 3 (.int .i64 p.r0)).setNew (Nat.le_refl _) 4 (.int .i64 p.r1)).setNew (Nat.le_refl _) 5 (.int .i64 p.r2)).setNew (Nat.le_refl _) 6 (.int .i64 p.l0)).setNew (Nat.le_refl _) 7 (.int .i64 p.l1)).setNew (Nat.le_refl _) 8 (.int .i64 p.l2)).setNew (Nat.le_refl _) 9 (.string p.img)).setNew (Nat.le_refl _) 10 (.int .i64 p.size)).setNew (Nat.le_refl _) 11 (.int .i64 ph))⟩
end Go.Proofs.Ytpmkhimmlpnbpaa
