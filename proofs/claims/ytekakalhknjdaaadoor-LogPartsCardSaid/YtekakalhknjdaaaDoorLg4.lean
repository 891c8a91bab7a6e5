
/- Stage 27: fields, Right: contracts. -/
import Derived.Test.YtekakalhknjdaaaDoorLg3
namespace Go.Proofs.YtekakalhknjdaaaDoor
open Go.RowKit
set_option linter.unusedVariables false
set_option linter.unusedSimpArgs false
theorem sgn_len (s : WrV) : s.sgn.F.length ≤ s.F.length + 1 := by
  unfold WrV.sgn
  split
  · show s.F.length ≤ _; omega
  · show (s.put (bA (sgE s.e.sig.toNat)) true).F.length ≤ _
    rw [lenP]; omega
theorem why_len (s : WrV) : s.why.F.length ≤ s.F.length + 2 := by
  unfold WrV.why
  dsimp only
  split
  · have h := sgn_len (s.put (bA pressL) true)
    rw [lenP] at h
    exact h
  · split
    · rw [lenP]; omega
    · show s.F.length ≤ _; omega
theorem write_len (e : EvV) : (writeW e).F.length ≤ 4 := by
  unfold writeW WrV.event
  dsimp only
  have h1 : ∀ s : WrV, s.idS.F.length = s.F.length + 1 := fun s => by unfold WrV.idS; show (s.put s.e.id (wordB s.e.id.data.toList)).F.length = _; exact lenP _ _ _
  have h2 : ∀ s : WrV, s.num.F.length = s.F.length + 1 := fun s => by unfold WrV.num; show (s.put (bA (Lib.itoa s.e.n)) (decide (0 ≤ s.e.n))).F.length = _; exact lenP _ _ _
  have hp := lenP ⟨[], e, false⟩ (bA (kwE e.kind.toNat)) true
  have hz : (⟨[], e, false⟩ : WrV).F.length = 0 := rfl
  generalize hT : ({ (⟨[], e, false⟩ : WrV).put (bA (kwE e.kind.toNat)) true with e := { e with kind := 0 } } : WrV) = T
  have ht : T.F.length = 1 := by rw [← hT]; show ((⟨[], e, false⟩ : WrV).put (bA (kwE e.kind.toNat)) true).F.length = 1; omega
  have a1 := h1 T
  have a2 := h2 T
  have a3 := h2 T.idS
  have a4 := sgn_len T
  have a5 := sgn_len T.idS
  have a6 := why_len T.idS
  repeat' split
  all_goals first | omega | (show (0 : Nat) ≤ 4; omega)
theorem blk_new2L (w : World) (o : Obj) (C : List Value) (T : TypeId) : Blk ((w.alloc o).alloc (.cells C.toArray T)) (w.heap.size + 1) C T := by
  have h := Blk.new (w.alloc o) C T
  have e : (w.alloc o).heap.size = w.heap.size + 1 := by simp
  rw [e] at h
  exact h
/-- What fields answers. -/
def FldP (base : Nat) (s : WrV) (e0 : Ending) (w' : World) : Prop := ∃ (a : Option Addr) (c : Nat), e0 = .returned (.tuple #[.slice a s.F.length c, .bool s.good]) ∧ OwnR w' base 9 1 (.slice a s.F.length c) s.F.length (s.F.map Value.string)
set_option maxRecDepth 100000 in
set_option maxHeartbeats 16000000 in
theorem lg_fields (e : EvV) (w : World) (ht : ∀ u, Below w.heap.size w u → Tab u) (hs : e.id.size ≤ maxLen) (hn : InI e.n) :
    Calls Tryd.prog 21 #[.agg #[.int .i64 e.kind, .string e.id, .int .i64 e.sig, .int .i64 e.n]] w fun e0 w' => FldP w.heap.size (writeW e) e0 w' ∧ Below w.heap.size w w' := by
  have HT := Lib.hid ht
  have HS := Lib.hid hs
  have HN := Lib.hid hn
  clear ht hs hn
  have HLN := Lib.hid (write_len e)
  go_enter Tryd.func21, Tryd.ntmps21
  go_upto_region 2 with fail
  have kb := belAlloc (belAlloc (Below.refl w.heap.size w) (.cells #[.int .i64 e.kind, .string e.id, .int .i64 e.sig, .int .i64 e.n] 23)) (.cells #[.slice none 0 0, .int .i64 e.kind, .string e.id, .int .i64 e.sig, .int .i64 e.n, .bool false] 71)
  have HB0 := Lib.hid (blk_new2L w (.cells #[.int .i64 e.kind, .string e.id, .int .i64 e.sig, .int .i64 e.n] 23) [.slice none 0 0, .int .i64 e.kind, .string e.id, .int .i64 e.sig, .int .i64 e.n, .bool false] 71)
  have hsz : w.heap.size + 1 < ((w.alloc (.cells #[.int .i64 e.kind, .string e.id, .int .i64 e.sig, .int .i64 e.n] 23)).alloc (.cells #[.slice none 0 0, .int .i64 e.kind, .string e.id, .int .i64 e.sig, .int .i64 e.n, .bool false] 71)).heap.size := by simp
  have HKB := Lib.hid kb
  clear kb
  generalize (w.alloc (.cells #[.int .i64 e.kind, .string e.id, .int .i64 e.sig, .int .i64 e.n] 23)).alloc (.cells #[.slice none 0 0, .int .i64 e.kind, .string e.id, .int .i64 e.sig, .int .i64 e.n, .bool false] 71) = w2 at *
  have HW := Lib.hid (show WrAt w2 (w.heap.size + 1) w.heap.size ⟨[], e, false⟩ from ⟨none, 0, HB0.out, OwnR.nil _ _ _ _⟩)
  clear HB0
  have CE := Lib.hid (lg_event (w.heap.size + 1) w.heap.size ⟨[], e, false⟩ w2 HW.out (by omega) (by show (0 : Nat) ≤ 4; omega) (fun u hu => HT.out u (HKB.out.trans hu)) HS.out HN.out)
  obtain ⟨s, hsv⟩ : ∃ s, writeW e = s := ⟨_, rfl⟩
  rw [show (⟨[], e, false⟩ : WrV).event = s from hsv] at CE
  rw [hsv] at HLN
  have HSV := Lib.hid hsv
  clear hsv HW
  go_upto_region 3 with (go_at_call 35; (with_reducible refine (CE.out).mono ?_); rintro e w3 ⟨rfl, hw3, hb3⟩; have HW3 := Lib.hid hw3; have HB3 := Lib.hid (HKB.out.trans hb3); clear hw3 hb3 CE)
  obtain ⟨a, c, hB, hO⟩ := HW3.out
  have HBk := Lib.hid hB
  have HOw := Lib.hid hO
  clear hB hO
  have HEV := Lib.hid (fun u => eq_ev s.e u)
  have hgd : s.good = (!s.bad && (decide (s.e.kind = 0) && (s.e.id.data.toList == [] && (decide (s.e.sig = 0) && decide (s.e.n = 0))))) := rfl
  obtain ⟨z, hz⟩ : ∃ z, (decide (s.e.kind = 0) && (s.e.id.data.toList == [] && (decide (s.e.sig = 0) && decide (s.e.n = 0)))) = z := ⟨_, rfl⟩
  rw [hz] at HEV hgd
  have HGD := Lib.hid hgd
  clear hz hgd
  have hbl : s.bad = true ∨ s.bad = false := by cases s.bad; exact .inr rfl; exact .inl rfl
  obtain ⟨sb, hsb⟩ : ∃ x, s.bad = x := ⟨_, rfl⟩
  rw [hsb] at HGD HBk hbl
  clear hsb
  have b0 := HBk.out.cell (j := 0) rfl
  have b1 := HBk.out.cell (j := 1) rfl
  have b2 := HBk.out.cell (j := 2) rfl
  have b3 := HBk.out.cell (j := 3) rfl
  have b4 := HBk.out.cell (j := 4) rfl
  have b5 := HBk.out.cell (j := 5) rfl
  have hev := HEV.out
  cases sb
  · go_region
    go_wp2
    go_ret2
    rw [HSV.out]
    exact ⟨⟨a, c, by rw [HGD.out]; rfl, OwnR.later HOw.out (belDrew (Below.refl _ _))⟩, belDrew HB3.out⟩
  · go_region
    go_wp2
    go_ret2
    rw [HSV.out]
    exact ⟨⟨a, c, by rw [HGD.out]; rfl, OwnR.later HOw.out (belDrew (Below.refl _ _))⟩, belDrew HB3.out⟩
set_option maxRecDepth 100000 in
set_option maxHeartbeats 16000000 in
theorem lg_Right (e : EvV) (w : World) (ht : ∀ u, Below w.heap.size w u → Tab u) (hs : e.id.size ≤ maxLen) (hn : InI e.n) :
    Calls Tryd.prog 13 #[.agg #[.int .i64 e.kind, .string e.id, .int .i64 e.sig, .int .i64 e.n]] w fun e0 w' => e0 = .returned (.bool (writeW e).good) ∧ Below w.heap.size w w' := by
  have CF := Lib.hid (fun u (hu : Below w.heap.size w u) => lg_fields e u (fun v hv => ht v (belStep hu hv)) hs hn)
  have hw : Below w.heap.size w w := Below.refl _ _
  have hbel : Below w.heap.size w w := Below.refl _ _
  go_enter Tryd.func13, Tryd.ntmps13
  go_upto_region 1 with fail
  have ee0 : (w.alloc (.cells #[.int .i64 e.kind, .string e.id, .int .i64 e.sig, .int .i64 e.n] 23)).cell? ⟨w.heap.size, 0, none⟩ = some (.int .i64 e.kind) := by first | (simp; done) | (rw [World.cell?_alloc_at _ _ _ _ (by simp)]; rfl) | (rw [World.cell?_alloc_past _ _ _ (by simp <;> omega), World.cell?_alloc_at _ _ _ _ (by simp)]; rfl) | (rw [World.cell?_alloc_past _ _ _ (by simp <;> omega), World.cell?_alloc_past _ _ _ (by simp <;> omega), World.cell?_alloc_at _ _ _ _ (by simp)]; rfl)
  have ee1 : (w.alloc (.cells #[.int .i64 e.kind, .string e.id, .int .i64 e.sig, .int .i64 e.n] 23)).cell? ⟨w.heap.size, 1, none⟩ = some (.string e.id) := by first | (simp; done) | (rw [World.cell?_alloc_at _ _ _ _ (by simp)]; rfl) | (rw [World.cell?_alloc_past _ _ _ (by simp <;> omega), World.cell?_alloc_at _ _ _ _ (by simp)]; rfl) | (rw [World.cell?_alloc_past _ _ _ (by simp <;> omega), World.cell?_alloc_past _ _ _ (by simp <;> omega), World.cell?_alloc_at _ _ _ _ (by simp)]; rfl)
  have ee2 : (w.alloc (.cells #[.int .i64 e.kind, .string e.id, .int .i64 e.sig, .int .i64 e.n] 23)).cell? ⟨w.heap.size, 2, none⟩ = some (.int .i64 e.sig) := by first | (simp; done) | (rw [World.cell?_alloc_at _ _ _ _ (by simp)]; rfl) | (rw [World.cell?_alloc_past _ _ _ (by simp <;> omega), World.cell?_alloc_at _ _ _ _ (by simp)]; rfl) | (rw [World.cell?_alloc_past _ _ _ (by simp <;> omega), World.cell?_alloc_past _ _ _ (by simp <;> omega), World.cell?_alloc_at _ _ _ _ (by simp)]; rfl)
  have ee3 : (w.alloc (.cells #[.int .i64 e.kind, .string e.id, .int .i64 e.sig, .int .i64 e.n] 23)).cell? ⟨w.heap.size, 3, none⟩ = some (.int .i64 e.n) := by first | (simp; done) | (rw [World.cell?_alloc_at _ _ _ _ (by simp)]; rfl) | (rw [World.cell?_alloc_past _ _ _ (by simp <;> omega), World.cell?_alloc_at _ _ _ _ (by simp)]; rfl) | (rw [World.cell?_alloc_past _ _ _ (by simp <;> omega), World.cell?_alloc_past _ _ _ (by simp <;> omega), World.cell?_alloc_at _ _ _ _ (by simp)]; rfl)
  have hb2 := (by repeat (first | exact hbel | refine belAlloc ?_ _ | refine belDrew ?_ | refine belSet ?_ _ _ (by simp)) : Below w.heap.size w (w.alloc (.cells #[.int .i64 e.kind, .string e.id, .int .i64 e.sig, .int .i64 e.n] 23)))
  replace hw := belStep hw hb2
  clear hb2 hbel
  generalize w.alloc (.cells #[.int .i64 e.kind, .string e.id, .int .i64 e.sig, .int .i64 e.n] 23) = W1 at *
  replace ee0 := keep ee0
  replace ee1 := keep ee1
  replace ee2 := keep ee2
  replace ee3 := keep ee3
  have hbel : Below W1.heap.size W1 W1 := Below.refl _ _
  skip
  have HW1 := Lib.hid hw
  clear hw
  go_wp2_with (go_at_call 21; (with_reducible refine (CF.out _ HW1.out).mono ?_); rintro e0 w2 ⟨⟨a, c, rfl, _⟩, hb2⟩; have HB2 := Lib.hid (belStep HW1.out hb2))
  go_ret
  exact ⟨rfl, HB2.out⟩
end Go.Proofs.YtekakalhknjdaaaDoor
