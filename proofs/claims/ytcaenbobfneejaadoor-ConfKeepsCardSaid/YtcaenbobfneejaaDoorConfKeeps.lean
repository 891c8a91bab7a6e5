
/- ConfKeeps holds for all its arguments. No conditions but that the library's variables lie as its own text lays them. -/
import Derived.Test.YtcaenbobfneejaaDoorCfBack
import Derived.Test.YtcaenbobfneejaaDoorThrCards
namespace Go.Proofs.YtcaenbobfneejaaDoor.confKeeps
open Go.ChangeShapes Go.WideShapes Go.ChangeAt Go.RowKit
open Go.ChangeMaps (open_string shut_string)
set_option linter.unusedVariables false
set_option linter.unusedSimpArgs false
theorem cfa_own {c : CfM} (hok : c.ok) {tn : Nat} (hT : c.T.length = tn) {w : World} {B : Nat} {dt : Option Addr} {dc : Nat} (h : OwnR w B 39 5 (.slice dt tn dc) tn (c.T.flatMap ThrV.cells)) : CfA c dt dc w := by
  subst hT
  obtain ⟨a, cap, e, hr⟩ := rowR_of_own h
  simp only [Value.slice.injEq, true_and] at e
  obtain ⟨rfl, rfl⟩ := e
  exact ⟨hok, hr⟩
set_option maxRecDepth 100000 in
set_option maxHeartbeats 16000000 in
theorem walk (c : CfM) (ta : Option Addr) (tc : Nat) (W : World) (ht : Env W) (hc : CfA c ta tc W) : Calls Tryd.prog 6 #[c.v (.slice ta c.T.length tc)] W fun e w' => e = .returned (.bool true) ∧ Below W.heap.size W w' := by
  have hw : Below W.heap.size W W := Below.refl _ _
  have hbel := hw
  have HE := Lib.hid ht
  have HC := Lib.hid hc
  clear ht hc
  unfold CfM.v
  go_enter Tryd.func6, Tryd.ntmps6
  go_upto_region 1 with fail
  have cc0 : (W.alloc (.cells #[.int .i64 c.k0, .int .i64 c.k1, .int .i64 c.k2, .int .i64 c.a0, .int .i64 c.a1, .int .i64 c.a2, .slice ta c.T.length tc, .int .i64 c.per, .int .i64 c.ret, .int .i64 c.age, .int .i64 c.dead] 25)).cell? ⟨W.heap.size, 0, none⟩ = some (.int .i64 c.k0) := by first | (simp; done) | (rw [World.cell?_alloc_at _ _ _ _ (by simp)]; rfl) | (rw [World.cell?_alloc_past _ _ _ (by simp <;> omega), World.cell?_alloc_at _ _ _ _ (by simp)]; rfl) | (rw [World.cell?_alloc_past _ _ _ (by simp <;> omega), World.cell?_alloc_past _ _ _ (by simp <;> omega), World.cell?_alloc_at _ _ _ _ (by simp)]; rfl)
  have cc1 : (W.alloc (.cells #[.int .i64 c.k0, .int .i64 c.k1, .int .i64 c.k2, .int .i64 c.a0, .int .i64 c.a1, .int .i64 c.a2, .slice ta c.T.length tc, .int .i64 c.per, .int .i64 c.ret, .int .i64 c.age, .int .i64 c.dead] 25)).cell? ⟨W.heap.size, 1, none⟩ = some (.int .i64 c.k1) := by first | (simp; done) | (rw [World.cell?_alloc_at _ _ _ _ (by simp)]; rfl) | (rw [World.cell?_alloc_past _ _ _ (by simp <;> omega), World.cell?_alloc_at _ _ _ _ (by simp)]; rfl) | (rw [World.cell?_alloc_past _ _ _ (by simp <;> omega), World.cell?_alloc_past _ _ _ (by simp <;> omega), World.cell?_alloc_at _ _ _ _ (by simp)]; rfl)
  have cc2 : (W.alloc (.cells #[.int .i64 c.k0, .int .i64 c.k1, .int .i64 c.k2, .int .i64 c.a0, .int .i64 c.a1, .int .i64 c.a2, .slice ta c.T.length tc, .int .i64 c.per, .int .i64 c.ret, .int .i64 c.age, .int .i64 c.dead] 25)).cell? ⟨W.heap.size, 2, none⟩ = some (.int .i64 c.k2) := by first | (simp; done) | (rw [World.cell?_alloc_at _ _ _ _ (by simp)]; rfl) | (rw [World.cell?_alloc_past _ _ _ (by simp <;> omega), World.cell?_alloc_at _ _ _ _ (by simp)]; rfl) | (rw [World.cell?_alloc_past _ _ _ (by simp <;> omega), World.cell?_alloc_past _ _ _ (by simp <;> omega), World.cell?_alloc_at _ _ _ _ (by simp)]; rfl)
  have cc3 : (W.alloc (.cells #[.int .i64 c.k0, .int .i64 c.k1, .int .i64 c.k2, .int .i64 c.a0, .int .i64 c.a1, .int .i64 c.a2, .slice ta c.T.length tc, .int .i64 c.per, .int .i64 c.ret, .int .i64 c.age, .int .i64 c.dead] 25)).cell? ⟨W.heap.size, 3, none⟩ = some (.int .i64 c.a0) := by first | (simp; done) | (rw [World.cell?_alloc_at _ _ _ _ (by simp)]; rfl) | (rw [World.cell?_alloc_past _ _ _ (by simp <;> omega), World.cell?_alloc_at _ _ _ _ (by simp)]; rfl) | (rw [World.cell?_alloc_past _ _ _ (by simp <;> omega), World.cell?_alloc_past _ _ _ (by simp <;> omega), World.cell?_alloc_at _ _ _ _ (by simp)]; rfl)
  have cc4 : (W.alloc (.cells #[.int .i64 c.k0, .int .i64 c.k1, .int .i64 c.k2, .int .i64 c.a0, .int .i64 c.a1, .int .i64 c.a2, .slice ta c.T.length tc, .int .i64 c.per, .int .i64 c.ret, .int .i64 c.age, .int .i64 c.dead] 25)).cell? ⟨W.heap.size, 4, none⟩ = some (.int .i64 c.a1) := by first | (simp; done) | (rw [World.cell?_alloc_at _ _ _ _ (by simp)]; rfl) | (rw [World.cell?_alloc_past _ _ _ (by simp <;> omega), World.cell?_alloc_at _ _ _ _ (by simp)]; rfl) | (rw [World.cell?_alloc_past _ _ _ (by simp <;> omega), World.cell?_alloc_past _ _ _ (by simp <;> omega), World.cell?_alloc_at _ _ _ _ (by simp)]; rfl)
  have cc5 : (W.alloc (.cells #[.int .i64 c.k0, .int .i64 c.k1, .int .i64 c.k2, .int .i64 c.a0, .int .i64 c.a1, .int .i64 c.a2, .slice ta c.T.length tc, .int .i64 c.per, .int .i64 c.ret, .int .i64 c.age, .int .i64 c.dead] 25)).cell? ⟨W.heap.size, 5, none⟩ = some (.int .i64 c.a2) := by first | (simp; done) | (rw [World.cell?_alloc_at _ _ _ _ (by simp)]; rfl) | (rw [World.cell?_alloc_past _ _ _ (by simp <;> omega), World.cell?_alloc_at _ _ _ _ (by simp)]; rfl) | (rw [World.cell?_alloc_past _ _ _ (by simp <;> omega), World.cell?_alloc_past _ _ _ (by simp <;> omega), World.cell?_alloc_at _ _ _ _ (by simp)]; rfl)
  have cc6 : (W.alloc (.cells #[.int .i64 c.k0, .int .i64 c.k1, .int .i64 c.k2, .int .i64 c.a0, .int .i64 c.a1, .int .i64 c.a2, .slice ta c.T.length tc, .int .i64 c.per, .int .i64 c.ret, .int .i64 c.age, .int .i64 c.dead] 25)).cell? ⟨W.heap.size, 6, none⟩ = some (.slice ta c.T.length tc) := by first | (simp; done) | (rw [World.cell?_alloc_at _ _ _ _ (by simp)]; rfl) | (rw [World.cell?_alloc_past _ _ _ (by simp <;> omega), World.cell?_alloc_at _ _ _ _ (by simp)]; rfl) | (rw [World.cell?_alloc_past _ _ _ (by simp <;> omega), World.cell?_alloc_past _ _ _ (by simp <;> omega), World.cell?_alloc_at _ _ _ _ (by simp)]; rfl)
  have cc7 : (W.alloc (.cells #[.int .i64 c.k0, .int .i64 c.k1, .int .i64 c.k2, .int .i64 c.a0, .int .i64 c.a1, .int .i64 c.a2, .slice ta c.T.length tc, .int .i64 c.per, .int .i64 c.ret, .int .i64 c.age, .int .i64 c.dead] 25)).cell? ⟨W.heap.size, 7, none⟩ = some (.int .i64 c.per) := by first | (simp; done) | (rw [World.cell?_alloc_at _ _ _ _ (by simp)]; rfl) | (rw [World.cell?_alloc_past _ _ _ (by simp <;> omega), World.cell?_alloc_at _ _ _ _ (by simp)]; rfl) | (rw [World.cell?_alloc_past _ _ _ (by simp <;> omega), World.cell?_alloc_past _ _ _ (by simp <;> omega), World.cell?_alloc_at _ _ _ _ (by simp)]; rfl)
  have cc8 : (W.alloc (.cells #[.int .i64 c.k0, .int .i64 c.k1, .int .i64 c.k2, .int .i64 c.a0, .int .i64 c.a1, .int .i64 c.a2, .slice ta c.T.length tc, .int .i64 c.per, .int .i64 c.ret, .int .i64 c.age, .int .i64 c.dead] 25)).cell? ⟨W.heap.size, 8, none⟩ = some (.int .i64 c.ret) := by first | (simp; done) | (rw [World.cell?_alloc_at _ _ _ _ (by simp)]; rfl) | (rw [World.cell?_alloc_past _ _ _ (by simp <;> omega), World.cell?_alloc_at _ _ _ _ (by simp)]; rfl) | (rw [World.cell?_alloc_past _ _ _ (by simp <;> omega), World.cell?_alloc_past _ _ _ (by simp <;> omega), World.cell?_alloc_at _ _ _ _ (by simp)]; rfl)
  have cc9 : (W.alloc (.cells #[.int .i64 c.k0, .int .i64 c.k1, .int .i64 c.k2, .int .i64 c.a0, .int .i64 c.a1, .int .i64 c.a2, .slice ta c.T.length tc, .int .i64 c.per, .int .i64 c.ret, .int .i64 c.age, .int .i64 c.dead] 25)).cell? ⟨W.heap.size, 9, none⟩ = some (.int .i64 c.age) := by first | (simp; done) | (rw [World.cell?_alloc_at _ _ _ _ (by simp)]; rfl) | (rw [World.cell?_alloc_past _ _ _ (by simp <;> omega), World.cell?_alloc_at _ _ _ _ (by simp)]; rfl) | (rw [World.cell?_alloc_past _ _ _ (by simp <;> omega), World.cell?_alloc_past _ _ _ (by simp <;> omega), World.cell?_alloc_at _ _ _ _ (by simp)]; rfl)
  have cc10 : (W.alloc (.cells #[.int .i64 c.k0, .int .i64 c.k1, .int .i64 c.k2, .int .i64 c.a0, .int .i64 c.a1, .int .i64 c.a2, .slice ta c.T.length tc, .int .i64 c.per, .int .i64 c.ret, .int .i64 c.age, .int .i64 c.dead] 25)).cell? ⟨W.heap.size, 10, none⟩ = some (.int .i64 c.dead) := by first | (simp; done) | (rw [World.cell?_alloc_at _ _ _ _ (by simp)]; rfl) | (rw [World.cell?_alloc_past _ _ _ (by simp <;> omega), World.cell?_alloc_at _ _ _ _ (by simp)]; rfl) | (rw [World.cell?_alloc_past _ _ _ (by simp <;> omega), World.cell?_alloc_past _ _ _ (by simp <;> omega), World.cell?_alloc_at _ _ _ _ (by simp)]; rfl)
  have hb2 := (by repeat (first | exact hbel | refine belAlloc ?_ _ | refine belDrew ?_ | refine belSet ?_ _ _ (by simp)) : Below W.heap.size W (W.alloc (.cells #[.int .i64 c.k0, .int .i64 c.k1, .int .i64 c.k2, .int .i64 c.a0, .int .i64 c.a1, .int .i64 c.a2, .slice ta c.T.length tc, .int .i64 c.per, .int .i64 c.ret, .int .i64 c.age, .int .i64 c.dead] 25)))
  replace hw := belStep hw hb2
  have ccB : Blk (W.alloc (.cells #[.int .i64 c.k0, .int .i64 c.k1, .int .i64 c.k2, .int .i64 c.a0, .int .i64 c.a1, .int .i64 c.a2, .slice ta c.T.length tc, .int .i64 c.per, .int .i64 c.ret, .int .i64 c.age, .int .i64 c.dead] 25)) (W.heap.size) [.int .i64 c.k0, .int .i64 c.k1, .int .i64 c.k2, .int .i64 c.a0, .int .i64 c.a1, .int .i64 c.a2, .slice ta c.T.length tc, .int .i64 c.per, .int .i64 c.ret, .int .i64 c.age, .int .i64 c.dead] 25 := (Blk.at (by simp) : Blk (W.alloc (.cells #[.int .i64 c.k0, .int .i64 c.k1, .int .i64 c.k2, .int .i64 c.a0, .int .i64 c.a1, .int .i64 c.a2, .slice ta c.T.length tc, .int .i64 c.per, .int .i64 c.ret, .int .i64 c.age, .int .i64 c.dead] 25)) (W.heap.size) [.int .i64 c.k0, .int .i64 c.k1, .int .i64 c.k2, .int .i64 c.a0, .int .i64 c.a1, .int .i64 c.a2, .slice ta c.T.length tc, .int .i64 c.per, .int .i64 c.ret, .int .i64 c.age, .int .i64 c.dead] 25).later (by repeat (first | exact Below.refl _ _ | refine belAlloc ?_ _))
  have ccF := Blk.keepF ccB
  replace ccB := Blk.keepB ccB
  clear hb2 hbel
  generalize W.alloc (.cells #[.int .i64 c.k0, .int .i64 c.k1, .int .i64 c.k2, .int .i64 c.a0, .int .i64 c.a1, .int .i64 c.a2, .slice ta c.T.length tc, .int .i64 c.per, .int .i64 c.ret, .int .i64 c.age, .int .i64 c.dead] 25) = W1 at *
  replace cc0 := keep cc0
  replace cc1 := keep cc1
  replace cc2 := keep cc2
  replace cc3 := keep cc3
  replace cc4 := keep cc4
  replace cc5 := keep cc5
  replace cc6 := keep cc6
  replace cc7 := keep cc7
  replace cc8 := keep cc8
  replace cc9 := keep cc9
  replace cc10 := keep cc10
  have hbel : Below W1.heap.size W1 W1 := Below.refl _ _
  skip
  have HW := Lib.hid hw
  clear hw
  have HC1 := Lib.hid (HC.out.later HW.out)
  have HE1 := Lib.hid (HE.out.later HW.out)
  clear HC HE
  have CA := Lib.hid (fun u (hu : Below W1.heap.size W1 u) => awake07 u (HE1.out.later hu))
  have CF := Lib.hid (fun u => few7 c ta tc u)
  obtain ⟨f1, hf1⟩ : ∃ x, decide (c.T.length ≤ 30) = x := ⟨_, rfl⟩
  rw [hf1] at CF
  clear hf1
  have CQ := Lib.hid (fun u (hu : Below W1.heap.size W1 u) => rf_Right7 c ta tc u (HC1.out.later hu))
  obtain ⟨r, hr⟩ : ∃ x, rightM c = x := ⟨_, rfl⟩
  rw [hr] at CQ
  cases f1 with
  | false =>
    go_wp2_with (first | (go_at_call 8; (with_reducible refine (CA.out _ hbel).mono ?_); rintro e w1 ⟨rfl, hb1⟩; replace hbel := belStep hbel hb1; clear hb1) | (go_at_call 9; (with_reducible refine (CF.out _).mono ?_); rintro e w1 ⟨rfl, hb1⟩; replace hbel := belStep hbel hb1; clear hb1) | (go_at_call 12; (with_reducible refine (CQ.out _ hbel).mono ?_); rintro e w1 ⟨rfl, hb1⟩; replace hbel := belStep hbel hb1; clear hb1))
    go_ret
    exact ⟨rfl, belStep HW.out hbel⟩
  | true =>
    cases r with
    | false =>
      go_wp2_with (first | (go_at_call 8; (with_reducible refine (CA.out _ hbel).mono ?_); rintro e w1 ⟨rfl, hb1⟩; replace hbel := belStep hbel hb1; clear hb1) | (go_at_call 9; (with_reducible refine (CF.out _).mono ?_); rintro e w1 ⟨rfl, hb1⟩; replace hbel := belStep hbel hb1; clear hb1) | (go_at_call 12; (with_reducible refine (CQ.out _ hbel).mono ?_); rintro e w1 ⟨rfl, hb1⟩; replace hbel := belStep hbel hb1; clear hb1))
      go_ret
      exact ⟨rfl, belStep HW.out hbel⟩
    | true =>
      have hcr := hr
      have HCR := Lib.hid hcr
      clear hr hcr
      have CV := Lib.hid (fun u (hu : Below W1.heap.size W1 u) => rf_Print7 c ta tc u (HC1.out.later hu) (right_of c HCR.out).2 (right_of c HCR.out).1)
      have hJ1 := read_back c HC1.out.ok HCR.out
      have hJ2 := text_len c HC1.out.ok HCR.out
      generalize joinF (printC c) = J at *
      have HJ := Lib.hid hJ1
      have HL := Lib.hid hJ2
      clear hJ1 hJ2
      obtain ⟨jl, hjl⟩ : ∃ n, J.length = n := ⟨_, rfl⟩
      have HJL := Lib.hid hjl
      have hjl2 : jl ≤ 20000 := by rw [← hjl]; exact HL.out
      clear hjl
      go_upto_region 4 with (first | (go_at_call 8; (with_reducible refine (CA.out _ hbel).mono ?_); rintro e w1 ⟨rfl, hb1⟩; replace hbel := belStep hbel hb1; clear hb1) | (go_at_call 9; (with_reducible refine (CF.out _).mono ?_); rintro e w1 ⟨rfl, hb1⟩; replace hbel := belStep hbel hb1; clear hb1) | (go_at_call 12; (with_reducible refine (CQ.out _ hbel).mono ?_); rintro e w1 ⟨rfl, hb1⟩; replace hbel := belStep hbel hb1; clear hb1) | (go_at_call 15; (with_reducible refine (CV.out _ hbel).mono ?_); rintro e wp ⟨rfl, hbp⟩; have hbq := belStep hbel hbp; clear hbel hbp; obtain ⟨jc, W2, hrun, hji, hjb, hbr, hsz⟩ := conv_row J wp (Nat.le_trans HL.out (by decide))))
      have hb2 := belStep hbq hjb
      have HB2 := Lib.hid hb2
      have HBR := Lib.hid hbr
      have HJI := Lib.hid hji
      have HSZ := Lib.hid hsz
      have hgW : W1.heap.size ≤ wp.heap.size := hbq.size
      have hjb2 := hjb.size
      clear hrun hbq hb2 hji hjb hbr hsz
      generalize wp.heap.size = g at *
      skip
      have HEE := Lib.hid (HE1.out.later HB2.out)
      go_upto_region 5 with (go_at_call 16; (with_reducible refine (readC_ok _ _ _ J c W2 HEE.out HJI.out HJ.out).mono ?_); rintro e wm ⟨⟨dt, dc, rfl, ho, _⟩, hbm⟩; have HO := Lib.hid ho; have HBM := Lib.hid hbm; clear ho hbm)
      obtain ⟨tn, htn⟩ : ∃ n, c.T.length = n := ⟨_, rfl⟩
      have HTN := Lib.hid htn
      have htn2 : tn ≤ 12 := by rw [← htn]; exact (right_of c HCR.out).1
      rw [htn] at HO ⊢
      clear htn
      have HQ := Lib.hid (fun q (hq : (Value.slice dt tn dc).ownBlock = some q) => World.ownsRow.lt HO.out q hq)
      have HCB := Lib.hid (ccB _ (belStep HB2.out HBM.out))
      rw [HTN.out] at HCB
      have hzm := HBM.out.size
      have HO3 := Lib.hid (OwnR.later HO.out (belAlloc (Below.refl wm.heap.size wm) (.cells #[.int .i64 c.k0, .int .i64 c.k1, .int .i64 c.k2, .int .i64 c.a0, .int .i64 c.a1, .int .i64 c.a2, .slice dt tn dc, .int .i64 c.per, .int .i64 c.ret, .int .i64 c.age, .int .i64 c.dead] 25)))
      have HR3 := Lib.hid ((HBR.out.later HBM.out).later (belAlloc (Below.refl wm.heap.size wm) (.cells #[.int .i64 c.k0, .int .i64 c.k1, .int .i64 c.k2, .int .i64 c.a0, .int .i64 c.a1, .int .i64 c.a2, .slice dt tn dc, .int .i64 c.per, .int .i64 c.ret, .int .i64 c.age, .int .i64 c.dead] 25)))
      have HC3 := Lib.hid (HCB.out.later (belAlloc (Below.refl wm.heap.size wm) (.cells #[.int .i64 c.k0, .int .i64 c.k1, .int .i64 c.k2, .int .i64 c.a0, .int .i64 c.a1, .int .i64 c.a2, .slice dt tn dc, .int .i64 c.per, .int .i64 c.ret, .int .i64 c.age, .int .i64 c.dead] 25)))
      have HD3 := Lib.hid (Blk.new wm [.int .i64 c.k0, .int .i64 c.k1, .int .i64 c.k2, .int .i64 c.a0, .int .i64 c.a1, .int .i64 c.a2, .slice dt tn dc, .int .i64 c.per, .int .i64 c.ret, .int .i64 c.age, .int .i64 c.dead] 25 : Blk (wm.alloc (.cells #[.int .i64 c.k0, .int .i64 c.k1, .int .i64 c.k2, .int .i64 c.a0, .int .i64 c.a1, .int .i64 c.a2, .slice dt tn dc, .int .i64 c.per, .int .i64 c.ret, .int .i64 c.age, .int .i64 c.dead] 25)) wm.heap.size [.int .i64 c.k0, .int .i64 c.k1, .int .i64 c.k2, .int .i64 c.a0, .int .i64 c.a1, .int .i64 c.a2, .slice dt tn dc, .int .i64 c.per, .int .i64 c.ret, .int .i64 c.age, .int .i64 c.dead] 25)
      have HB3 := Lib.hid (belAlloc (belStep HB2.out HBM.out) (.cells #[.int .i64 c.k0, .int .i64 c.k1, .int .i64 c.k2, .int .i64 c.a0, .int .i64 c.a1, .int .i64 c.a2, .slice dt tn dc, .int .i64 c.per, .int .i64 c.ret, .int .i64 c.age, .int .i64 c.dead] 25) : Below W1.heap.size W1 (wm.alloc (.cells #[.int .i64 c.k0, .int .i64 c.k1, .int .i64 c.k2, .int .i64 c.a0, .int .i64 c.a1, .int .i64 c.a2, .slice dt tn dc, .int .i64 c.per, .int .i64 c.ret, .int .i64 c.age, .int .i64 c.dead] 25)))
      clear HO HCB HBR
      generalize wm.alloc (.cells #[.int .i64 c.k0, .int .i64 c.k1, .int .i64 c.k2, .int .i64 c.a0, .int .i64 c.a1, .int .i64 c.a2, .slice dt tn dc, .int .i64 c.per, .int .i64 c.ret, .int .i64 c.age, .int .i64 c.dead] 25) = W3 at *
      have hcg : W.heap.size < g := Nat.lt_of_lt_of_le (ccB _ (Below.refl _ _)).lt hgW
      have hgm : g < W2.heap.size := by have := HSZ.out; omega
      have hg2 : g < wm.heap.size := by omega
      clear HBM HJI HSZ HEE
      generalize wm.heap.size = dn at *
      skip
      rw [HJL.out]
      have HRW := Lib.hid (show Brow W3 g jl from HJL.out ▸ HR3.out)
      clear HR3
      clear cc0 cc1 cc2 cc3 cc4 cc5 cc6 cc7 cc8 cc9 cc10 ccB ccF
      go_wp2
      go_loopg [7] jl (fun gv iv wr => ∃ (i : Nat), i + gv = jl ∧ iv = .int .i64 i ∧ Hid (Brow wr g jl) ∧ Hid (OwnR wr W2.heap.size 39 5 (.slice dt tn dc) tn (c.T.flatMap ThrV.cells)) ∧ Hid (Blk wr W.heap.size [.int .i64 c.k0, .int .i64 c.k1, .int .i64 c.k2, .int .i64 c.a0, .int .i64 c.a1, .int .i64 c.a2, .slice ta tn tc, .int .i64 c.per, .int .i64 c.ret, .int .i64 c.age, .int .i64 c.dead] 25) ∧ Hid (Blk wr dn [.int .i64 c.k0, .int .i64 c.k1, .int .i64 c.k2, .int .i64 c.a0, .int .i64 c.a1, .int .i64 c.a2, .slice dt tn dc, .int .i64 c.per, .int .i64 c.ret, .int .i64 c.age, .int .i64 c.dead] 25) ∧ Below W1.heap.size W1 wr)
      case atStart => exact ⟨0, by omega, rfl, HRW, HO3, HC3, HD3, HB3.out⟩
      case round =>
        clear HRW HO3 HC3 HD3 HB3
        obtain ⟨i, hig, rfl, HRB, HO, HC, HD, hbel⟩ := hrel
        cases gk with
        | zero =>
          obtain rfl : i = jl := by omega
          have hd : decide ((i : Int) < (i : Int)) = false := decide_eq_false (by omega)
          have HB4 := Lib.hid hbel
          have HCC := Lib.hid (HC1.out.later hbel)
          have HDC := Lib.hid (cfa_own HC1.out.ok HTN.out HO.out)
          have CX := Lib.hid (rf_Same7 c c ta dt tc dc wr (HC1.out.later hbel) HDC.out)
          rw [sameM_refl, HTN.out] at CX
          have cc0 := HC.out.cell (j := 0) rfl
          have cc1 := HC.out.cell (j := 1) rfl
          have cc2 := HC.out.cell (j := 2) rfl
          have cc3 := HC.out.cell (j := 3) rfl
          have cc4 := HC.out.cell (j := 4) rfl
          have cc5 := HC.out.cell (j := 5) rfl
          have cc6 := HC.out.cell (j := 6) rfl
          have cc7 := HC.out.cell (j := 7) rfl
          have cc8 := HC.out.cell (j := 8) rfl
          have cc9 := HC.out.cell (j := 9) rfl
          have cc10 := HC.out.cell (j := 10) rfl
          have dd0 := HD.out.cell (j := 0) rfl
          have dd1 := HD.out.cell (j := 1) rfl
          have dd2 := HD.out.cell (j := 2) rfl
          have dd3 := HD.out.cell (j := 3) rfl
          have dd4 := HD.out.cell (j := 4) rfl
          have dd5 := HD.out.cell (j := 5) rfl
          have dd6 := HD.out.cell (j := 6) rfl
          have dd7 := HD.out.cell (j := 7) rfl
          have dd8 := HD.out.cell (j := 8) rfl
          have dd9 := HD.out.cell (j := 9) rfl
          have dd10 := HD.out.cell (j := 10) rfl
          clear hbel HRB
          go_upto_region 10 with (go_at_call 14; (with_reducible refine (CX.out).mono ?_); rintro e ws ⟨rfl, hbs⟩; have HBS := Lib.hid hbs; clear hbs)
          clear cc0 dd0 cc1 dd1 cc2 dd2 cc3 dd3 cc4 dd4 cc5 dd5 cc6 dd6 cc7 dd7 cc8 dd8 cc9 dd9 cc10 dd10
          have HO4 := Lib.hid (OwnR.later HO.out HBS.out)
          have HC4 := Lib.hid (HC.out.later HBS.out)
          have HD4 := Lib.hid (HD.out.later HBS.out)
          have HB5 := Lib.hid (belStep HB4.out HBS.out)
          clear HO HC HD CX HDC HCC
          go_wp2
          go_loopw [9] (fun iv wr => ∃ (k : Nat) (cs : List Value), k ≤ tn ∧ iv = .int .i64 k ∧ Hid (OwnR wr W2.heap.size 39 5 (.slice dt tn dc) tn cs) ∧ Hid (Blk wr W.heap.size [.int .i64 c.k0, .int .i64 c.k1, .int .i64 c.k2, .int .i64 c.a0, .int .i64 c.a1, .int .i64 c.a2, .slice ta tn tc, .int .i64 c.per, .int .i64 c.ret, .int .i64 c.age, .int .i64 c.dead] 25) ∧ Hid (Blk wr dn [.int .i64 c.k0, .int .i64 c.k1, .int .i64 c.k2, .int .i64 c.a0, .int .i64 c.a1, .int .i64 c.a2, .slice dt tn dc, .int .i64 c.per, .int .i64 c.ret, .int .i64 c.age, .int .i64 c.dead] 25) ∧ Below W1.heap.size W1 wr) (fun iv _ => tn - (intOf iv).toNat)
          case atStart => exact ⟨0, _, Nat.zero_le _, rfl, HO4, HC4, HD4, HB5.out⟩
          case round =>
            clear HO4 HC4 HD4 HB5
            obtain ⟨k, cs, hk, rfl, HO, HC, HD, hbel⟩ := hrel
            by_cases hlt : k < tn
            · have hd2 : decide ((k : Int) < (tn : Int)) = true := decide_eq_true (by omega)
              have hki : (k : Int) < (tn : Int) := by omega
              have hk0 : (0 : Int) ≤ (k : Int) := by omega
              have dd6 := HD.out.cell (j := 6) rfl
              rcases own_open HO.out with ⟨_, h0, _⟩ | ⟨q, gc, C, e9, hBg, hCb, hnc, hcm, hCl, _⟩
              · omega
              simp only [Value.slice.injEq, true_and] at e9
              obtain ⟨rfl, rfl⟩ := e9
              obtain ⟨d0v, d0⟩ : ∃ v, wr.cell? ⟨q, k * 5, none⟩ = some v := ⟨_, hCb.cell (List.getElem?_eq_getElem (by rw [hCl]; omega))⟩
              obtain ⟨d1v, d1⟩ : ∃ v, wr.cell? ⟨q, k * 5 + 1, none⟩ = some v := ⟨_, hCb.cell (List.getElem?_eq_getElem (by rw [hCl]; omega))⟩
              obtain ⟨d2v, d2⟩ : ∃ v, wr.cell? ⟨q, k * 5 + 2, none⟩ = some v := ⟨_, hCb.cell (List.getElem?_eq_getElem (by rw [hCl]; omega))⟩
              obtain ⟨d3v, d3⟩ : ∃ v, wr.cell? ⟨q, k * 5 + 3, none⟩ = some v := ⟨_, hCb.cell (List.getElem?_eq_getElem (by rw [hCl]; omega))⟩
              obtain ⟨d4v, d4⟩ : ∃ v, wr.cell? ⟨q, k * 5 + 4, none⟩ = some v := ⟨_, hCb.cell (List.getElem?_eq_getElem (by rw [hCl]; omega))⟩
              have df := hCb.frozen
              have hqq := HQ.out q rfl
              have hqW : W1.heap.size ≤ q := by omega
              have HO6 := Lib.hid (World.ownsRow.stored (World.ownsRow.stored (World.ownsRow.stored (World.ownsRow.stored (World.ownsRow.stored HO.out (k * 5) (.int .i64 0)).1 (k * 5 + 1) (.int .i64 0)).1 (k * 5 + 2) (.int .i64 0)).1 (k * 5 + 3) (.bool false)).1 (k * 5 + 4) (.int .i64 0)).1
              have HC6 := Lib.hid (blk_far (blk_far (blk_far (blk_far (blk_far HC.out ⟨q, k * 5, none⟩ (by show q ≠ W.heap.size; omega) (.int .i64 0)) ⟨q, k * 5 + 1, none⟩ (by show q ≠ W.heap.size; omega) (.int .i64 0)) ⟨q, k * 5 + 2, none⟩ (by show q ≠ W.heap.size; omega) (.int .i64 0)) ⟨q, k * 5 + 3, none⟩ (by show q ≠ W.heap.size; omega) (.bool false)) ⟨q, k * 5 + 4, none⟩ (by show q ≠ W.heap.size; omega) (.int .i64 0))
              have HD6 := Lib.hid (blk_far (blk_far (blk_far (blk_far (blk_far HD.out ⟨q, k * 5, none⟩ (by show q ≠ dn; omega) (.int .i64 0)) ⟨q, k * 5 + 1, none⟩ (by show q ≠ dn; omega) (.int .i64 0)) ⟨q, k * 5 + 2, none⟩ (by show q ≠ dn; omega) (.int .i64 0)) ⟨q, k * 5 + 3, none⟩ (by show q ≠ dn; omega) (.bool false)) ⟨q, k * 5 + 4, none⟩ (by show q ≠ dn; omega) (.int .i64 0))
              have HB6 := Lib.hid (belSet (belSet (belSet (belSet (belSet hbel ⟨q, k * 5, none⟩ (.int .i64 0) hqW) ⟨q, k * 5 + 1, none⟩ (.int .i64 0) hqW) ⟨q, k * 5 + 2, none⟩ (.int .i64 0) hqW) ⟨q, k * 5 + 3, none⟩ (.bool false) hqW) ⟨q, k * 5 + 4, none⟩ (.int .i64 0) hqW)
              clear hCb hCl hcm HO HC HD hbel hqq
              go_wp2
              go_roundw
              case rel => exact ⟨k + 1, _, by omega, by push_cast; rfl, HO6, HC6, HD6, HB6.out⟩
              case measure => simp [intOf] <;> omega
            · obtain rfl : k = tn := by omega
              have hd2 : decide ((k : Int) < (k : Int)) = false := decide_eq_false (by omega)
              have dd6 := HD.out.cell (j := 6) rfl
              have cc0 := HC.out.cell (j := 0) rfl
              have cc1 := HC.out.cell (j := 1) rfl
              have cc2 := HC.out.cell (j := 2) rfl
              have cc3 := HC.out.cell (j := 3) rfl
              have cc4 := HC.out.cell (j := 4) rfl
              have cc5 := HC.out.cell (j := 5) rfl
              have cc6 := HC.out.cell (j := 6) rfl
              have cc7 := HC.out.cell (j := 7) rfl
              have cc8 := HC.out.cell (j := 8) rfl
              have cc9 := HC.out.cell (j := 9) rfl
              have cc10 := HC.out.cell (j := 10) rfl
              have HB9 := Lib.hid hbel
              have HCC := Lib.hid (HC1.out.later hbel)
              have CX := Lib.hid (rf_Right7 c ta tc wr HCC.out)
              rw [HTN.out, HCR.out] at CX
              clear HC HD HO hbel
              go_wp2_with (go_at_call 12; (with_reducible refine (CX.out).mono ?_); rintro e wz ⟨rfl, hbz⟩; have HBZ := Lib.hid hbz; clear hbz)
              go_ret
              exact ⟨rfl, belStep HW.out (belStep HB9.out HBZ.out)⟩
        | succ gq =>
          have hil : i < jl := by omega
          have hd : decide ((i : Int) < (jl : Int)) = true := decide_eq_true (by omega)
          have hii : (i : Int) < (jl : Int) := by omega
          have hi0 : (0 : Int) ≤ (i : Int) := by omega
          have hfr := HRB.out.frozen hil
          obtain ⟨cv, hce⟩ := HRB.out.cell hil
          have HR5 := Lib.hid (HRB.out.set i (.int .u8 33))
          have HO5 := Lib.hid (OwnR.setCell HO.out (a := ⟨g, i, none⟩) hgm (.int .u8 33))
          have HC5 := Lib.hid (blk_far HC.out ⟨g, i, none⟩ (by show g ≠ W.heap.size; omega) (.int .u8 33))
          have HD5 := Lib.hid (blk_far HD.out ⟨g, i, none⟩ (by show g ≠ dn; omega) (.int .u8 33))
          have HB5 := Lib.hid (belSet hbel ⟨g, i, none⟩ (.int .u8 33) hgW)
          clear HRB HO HC HD hbel
          go_wp2
          go_roundg gq
          case rel => exact ⟨i + 1, by omega, by push_cast; rfl, HR5, HO5, HC5, HD5, HB5.out⟩
          case measure => omega
theorem env_of {W : World} (h : laidMet Tryd.prog Rows.confKeepsRow.laid W) (hs : W.ShapedOpen Tryd.prog) : Env W := env_of7 h hs

set_option maxRecDepth 100000 in
set_option maxRecDepth 100000 in
theorem lifted (os : Os) (started : os.Started) (H : Type) (enc : TypeId × Value → H) :
    ReturnsInHanded {} Tryd.checked os 6 .any (fun w args => (Rows.confKeepsSpec.pre enc Tryd.prog Tryd.f6 [] false w args ∧ laidMetH Tryd.prog Rows.confKeepsRow.laid w) ∧ sizedMet enc Tryd.prog Tryd.f6 (OpenSpec.ofChange Rows.confKeepsSpec) false w args) (Rows.confKeepsSpec.post enc Tryd.prog Tryd.f6 false true false false) := by
  refine returnsInHanded_of_change_and_shaped (C := Tryd.checked) (X := fun w _ => laidMetH Tryd.prog Rows.confKeepsRow.laid w) (fun _ _ _ hh h => h.of_heap hh) own started (by kernel_rfl) Tryd.func6
    (ChangeSpec.witness_shaped (enc := enc) (C := Tryd.checked) (os := os) (X := fun w _ => laidMetH Tryd.prog Rows.confKeepsRow.laid w) false (World.laidAll Tryd.prog os Rows.confKeepsRow.laid) #[.agg #[.int .i64 0, .int .i64 0, .int .i64 0, .int .i64 0, .int .i64 0, .int .i64 0, .slice none 0 0, .int .i64 0, .int .i64 0, .int .i64 0, .int .i64 0]] 8 (World.laidAll_os _ _ _) (World.shaped_of_ZipB (by kernel_rfl) (by kernel_rfl)) (by kernel_rfl) (by kernel_rfl) (by kernel_rfl) (by rw [MakeChecks.laidMetH_plain _ _ _ (by kernel_rfl)]; exact laidMet_laidAll _ (by kernel_rfl) (by kernel_rfl))) ?_
  intro W base args ds gs before hval0 hW hL hsh
  rw [MakeChecks.laidMetH_plain _ _ _ (by kernel_rfl)] at hL
  have ht : Env W := env_of hL hsh
  clear hL
  have hval : ∀ (j : Nat) t v, Tryd.f6.params[j]? = some t → args[j]? = some v → Value.okWide Tryd.prog W .any base t v := hval0
  have hW' := hW
  obtain ⟨p, q, hA0, hV, rfl, hfz, hnd⟩ := hW
  have hA : DataW.TrodAll enc Tryd.prog W 0 (fun _ => true) true Tryd.f6.params.toList args.toList ds p := hA0
  rw [Tryd.params6] at hA hval
  obtain ⟨v0, vs0, d0, ds0, p0, q0, hargs, rfl, rfl, h0, r0⟩ := trodAll_cons hA
  obtain ⟨rfl, rfl, rfl⟩ := trodAll_nil r0
  obtain rfl : args = #[v0] := by cases args; simp_all
  obtain ⟨rfl, rfl⟩ := trodVars_none hV
  have k0 := h0
  have lt0 : ∀ x ∈ p0, x.block < W.heap.size := by obtain ⟨m, hm⟩ := k0; exact DataW.trod_lt m _ _ _ hm
  have o0 : Value.okWide Tryd.prog W .any base 25 v0 := hval 0 25 v0 rfl rfl
  obtain ⟨c0, ta0, tc0, rfl, hc0⟩ := open_cfg o0 h0
  clear hA0 hval0
  refine (walk c0 ta0 tc0 W ht hc0).mono fun e W' ⟨he, bel⟩ => ?_
  subst he
  exact ⟨_, rfl, _, _, _, [], _, [], hW', trodAll_mk1 (shut_bool Tryd.underlying4 _), (trodAll_cons_mk (Below.trod laidOut (by kernel_rfl) (of_decide_eq_true (by kernel_rfl)) k0 bel lt0) trodAll_mk0), rfl, bel.frame _, fun h => by cases h⟩

theorem over : Rows.confKeepsRow.holds Tryd.pinned (OpenSpec.ofChange Rows.confKeepsSpec) :=
  OpenClaim.holds_of_wide 6 Tryd.f6 rfl rfl rfl rfl rfl rfl rfl ⟨rfl, rfl, rfl, rfl, rfl⟩ rfl rfl rfl rfl rfl (by kernel_rfl) Tryd.func6 (by kernel_rfl)
    (of_decide_eq_true (by kernel_rfl)) (by unfold Func.isWrapper; first | (rw [if_pos (by decide +kernel)]; kernel_rfl) | (rw [if_neg (by decide +kernel)]; exact ⟨rfl, rfl⟩))
    (fun os started H enc _ => lifted os started H enc)

/-- The statement. -/
theorem proved : Rows.ConfKeepsCardSaid :=
  Claim7.holds_tied_plain_at .later [] Rows.confKeepsCard.laidKinds true Rows.confKeepsCard.stood.harness true
    over (fun _ h => by cases h) (by kernel_rfl) (fun _ h => by cases h) confKeeps_row_tie rfl ⟨rfl, rfl⟩ (by kernel_rfl) rfl
    (fun f fn hf hfn => by
      obtain rfl : f = 6 := Option.some.inj ((show Tryd.prog.funcNamed Rows.confKeepsRow.func = some 6 by kernel_rfl).symm.trans hf) |>.symm
      obtain rfl : fn = Tryd.f6 := (Option.some.inj (Tryd.func6.symm.trans hfn)).symm
      exact ⟨by kernel_rfl, fun j t ht => by
        rw [Tryd.params6] at ht
        have hm : t ∈ [25] := by simpa using Array.mem_of_getElem? ht
        have hall : ([25].all fun u => !Tryd.prog.wantsStandIn u) = true := by kernel_rfl
        exact (show Tryd.prog.wantsStandIn t = false by simpa using List.all_eq_true.1 hall t hm)⟩)
    (by kernel_rfl)
#print axioms proved

end Go.Proofs.YtcaenbobfneejaaDoor.confKeeps
