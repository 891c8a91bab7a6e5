/- What AdmitLess rests on. -/
import Derived.Test.YtafojeeehehplaaAdmLM
namespace Go.Proofs.Ytafojeeehehplaa
open Go.ChangeShapes Go.WideShapes Go.ChangeAt Go.RowKit
set_option linter.unusedVariables false
set_option linter.unusedSimpArgs false
set_option maxRecDepth 100000 in
theorem open_three16 {H : Type} {enc : TypeId × Value → H} {W : World} {v : Value} {b : Nat} {d : DataW H} {p : List MemPlace} (o : Value.okWide Try.prog W .any b 58 v) (h : DataW.Trod enc Try.prog W 0 (fun _ => true) true 58 v d p) :
    ∃ x y z : Int, v = .agg #[.int .u16 x, .int .u16 y, .int .u16 z] ∧ (0 ≤ x ∧ x ≤ 65535) ∧ (0 ≤ y ∧ y ≤ 65535) ∧ (0 ≤ z ∧ z ≤ 65535) := by
  obtain ⟨cs, rfl⟩ := agg_of_array Try.underlying58 o
  have hr := Rd.of h
  rw [agg_cells] at hr
  obtain ⟨hl, hf⟩ := Rd.array Try.underlying58 hr
  rw [show Try.prog.cellsOf 58 = 3 by kernel_rfl] at hl
  obtain ⟨a, b, c, e⟩ := list3 hl
  rw [e] at hf
  have h0 := hf 0 (by omega)
  have h1 := hf 1 (by omega)
  have h2 := hf 2 (by omega)
  simp [show Try.prog.cellsOf 57 = 1 by kernel_rfl] at h0 h1 h2
  obtain ⟨x, e0, w0⟩ := Rd.int Try.underlying57 h0
  obtain ⟨y, e1, w1⟩ := Rd.int Try.underlying57 h1
  obtain ⟨z, e2, w2⟩ := Rd.int Try.underlying57 h2
  obtain rfl := (show a = .int .u16 x by simpa using e0)
  obtain rfl := (show b = .int .u16 y by simpa using e1)
  obtain rfl := (show c = .int .u16 z by simpa using e2)
  exact ⟨x, y, z, by rw [show cs = cs.toList.toArray by simp, e], in16_of_wf w0, in16_of_wf w1, in16_of_wf w2⟩
def lessF (r m : Int) : Int := if m ≤ r then r - m else r
theorem lessF_bd {r m : Int} (h : 0 ≤ r) (hm : 0 ≤ m) : 0 ≤ lessF r m ∧ lessF r m ≤ r := by unfold lessF; split <;> omega
def pkC (p : PodV) (q0 q1 q2 : Int) : Nat → List Value
  | 0 => [.string p.id, .int .i64 p.prio, .bool p.crit, .int .i64 p.r0, .int .i64 p.r1, .int .i64 p.r2, .int .i64 p.l0, .int .i64 p.l1, .int .i64 p.l2, .string p.img, .int .i64 p.size]
  | 1 => [.string p.id, .int .i64 p.prio, .bool p.crit, .int .i64 q0, .int .i64 p.r1, .int .i64 p.r2, .int .i64 p.l0, .int .i64 p.l1, .int .i64 p.l2, .string p.img, .int .i64 p.size]
  | 2 => [.string p.id, .int .i64 p.prio, .bool p.crit, .int .i64 q0, .int .i64 q1, .int .i64 p.r2, .int .i64 p.l0, .int .i64 p.l1, .int .i64 p.l2, .string p.img, .int .i64 p.size]
  | _ => [.string p.id, .int .i64 p.prio, .bool p.crit, .int .i64 q0, .int .i64 q1, .int .i64 q2, .int .i64 p.l0, .int .i64 p.l1, .int .i64 p.l2, .string p.img, .int .i64 p.size]
theorem okr_less {r l q : Int} (h : okr r l = true) (h0 : 0 ≤ q) (h1 : q ≤ r) : okr q l = true := by
  unfold okr at *
  simp only [Bool.and_eq_true, decide_eq_true_eq, Bool.or_eq_true, beq_iff_eq] at *
  omega
def lessP (p : PodV) (q0 q1 q2 : Int) : PodV := ⟨p.id, p.prio, p.crit, q0, q1, q2, p.l0, p.l1, p.l2, p.img, p.size⟩
theorem right_less {p : PodV} {q0 q1 q2 : Int} (h : rightB p = true) (h0 : 0 ≤ q0 ∧ q0 ≤ p.r0) (h1 : 0 ≤ q1 ∧ q1 ≤ p.r1) (h2 : 0 ≤ q2 ∧ q2 ≤ p.r2) : rightB (lessP p q0 q1 q2) = true := by
  unfold rightB lessP at *
  simp only [Bool.and_eq_true, decide_eq_true_eq] at *
  obtain ⟨⟨⟨⟨⟨⟨⟨a, b⟩, c⟩, d⟩, e⟩, f⟩, g⟩, i⟩ := h
  exact ⟨⟨⟨⟨⟨⟨⟨okr_less a h0.1 h0.2, okr_less b h1.1 h1.2⟩, okr_less c h2.1 h2.2⟩, d⟩, e⟩, f⟩, g⟩, i⟩
theorem fit1_less {room s t : Int} (h : fit1 room s = true) (ht : t ≤ s) (hs : s ≤ 9223372036854775807) : fit1 room t = true := by
  unfold fit1 at *
  simp only [Bool.and_eq_true, decide_eq_true_eq, Bool.not_eq_true', beq_eq_false_iff_ne, ne_eq] at *
  omega
theorem fits_less {R : Room} {L : List PodV} {p : PodV} {q0 q1 q2 : Int} (h : fitsB R (L ++ [p]) = true) (h0 : q0 ≤ p.r0) (h1 : q1 ≤ p.r1) (h2 : q2 ≤ p.r2) : fitsB R (L ++ [lessP p q0 q1 q2]) = true := by
  unfold fitsB at *
  simp only [sumF_snoc, Bool.and_eq_true] at *
  have m0 := satAdd_bd (sumF PodV.r0 L) p.r0
  have m1 := satAdd_bd (sumF PodV.r1 L) p.r1
  have m2 := satAdd_bd (sumF PodV.r2 L) p.r2
  exact ⟨fit1_less h.1 (by show satAdd _ q0 ≤ _; unfold satAdd; omega) m0.2, fit1_less h.2.1 (by show satAdd _ q1 ≤ _; unfold satAdd; omega) m1.2, fit1_less h.2.2 (by show satAdd _ q2 ≤ _; unfold satAdd; omega) m2.2⟩
theorem dec_less {R : Room} {T : List EntV} {p : PodV} {q0 q1 q2 : Int} (hr0 : 0 ≤ R.a ∧ 0 ≤ R.b ∧ 0 ≤ R.c) (ht : TabOK T) (hr : refusedF T p = 0) (hc : chooseF R (podsOf T) p = some []) (h0 : 0 ≤ q0 ∧ q0 ≤ p.r0) (h1 : 0 ≤ q1 ∧ q1 ≤ p.r1) (h2 : 0 ≤ q2 ∧ q2 ≤ p.r2) :
    decideF R T ⟨false, false, false⟩ (lessP p q0 q1 q2) = (⟨1, 0, []⟩, 0) := by
  have hf := ref0_fit hr0 ht hr
  have hm := (min_ok hf hc).fits
  rw [kept_nil] at hm
  have hm2 := fits_less hm h0.2 h1.2 h2.2
  have hi : idIn T p.id = false ∧ T.length < 64 := by
    rcases refused_cases T p with ⟨e, _⟩ | ⟨e, _⟩ | ⟨e, _⟩ | ⟨_, _, h, h'⟩
    · rw [e] at hr; cases hr
    · rw [e] at hr; cases hr
    · rw [e] at hr; cases hr
    · exact ⟨h, h'⟩
  have hr2 : refusedF T (lessP p q0 q1 q2) = 0 := by
    unfold refusedF
    rw [right_less hf.rp h0 h1 h2, show idIn T (lessP p q0 q1 q2).id = false from hi.1]
    simp; omega
  have hb : barredF ⟨false, false, false⟩ (lessP p q0 q1 q2) = none := by unfold barredF; cases (lessP p q0 q1 q2).crit <;> rfl
  have hch : chooseF R (podsOf T) (lessP p q0 q1 q2) = some [] := by unfold chooseF; rw [if_pos hm2]
  refine dec_room hr2 hb ?_
  unfold roomF; rw [hch]; rfl
end Go.Proofs.Ytafojeeehehplaa
