
/- ConfErrs holds for all its arguments. No conditions but that the library's variables lie as its own text lays them. -/
import Derived.Test.YtcaenbobfneejaaDoorCfLine
import Derived.Test.YtcaenbobfneejaaDoorThrCards
import Derived.Test.YtcaenbobfneejaaDoorKeepC
namespace Go.Proofs.YtcaenbobfneejaaDoor.confErrs
open Go.ChangeShapes Go.WideShapes Go.ChangeAt Go.RowKit
open Go.ChangeMaps (open_string shut_string)
set_option linter.unusedVariables false
set_option linter.unusedSimpArgs false
theorem cfa_own {c : CfM} (hok : c.ok) {tn : Nat} (hT : c.T.length = tn) {w : World} {B : Nat} {dt : Option Addr} {dc : Nat} (h : OwnR w B 39 5 (.slice dt tn dc) tn (c.T.flatMap ThrV.cells)) : CfA c dt dc w := by
  subst hT
  obtain ⟨a, cap, e, hr⟩ := rowR_of_own h
  simp only [Value.slice.injEq, true_and] at e
  obtain ⟨rfl, rfl⟩ := e
  exact ⟨hok, hr⟩
theorem none_facts (c : CfM) (h : c.ok) (hr : rightM c = true) : ({ c with k0 := 0, a1 := 0 } : CfM).ok ∧ (joinF (printC ({ c with k0 := 0, a1 := 0 } : CfM))).length ≤ 20000 := by
  have hok : ({ c with k0 := 0, a1 := 0 } : CfM).ok := ⟨⟨zero_in, h.ck.2.1, h.ck.2.2⟩, ⟨h.ca.1, zero_in, h.ca.2.2⟩, h.cp, h.thr⟩
  exact ⟨hok, text_lenT _ hok (right_of c hr).1 (right_of c hr).2⟩
def wrS (b : Nat) : ByteArray := bA (wordsF true (wrF b))
theorem wrS_size (b : Nat) (hb : b < 8) : (wrS b).size ≤ 100 := by
  rcases (show b = 0 ∨ b = 1 ∨ b = 2 ∨ b = 3 ∨ b = 4 ∨ b = 5 ∨ b = 6 ∨ b = 7 by omega) with rfl | rfl | rfl | rfl | rfl | rfl | rfl | rfl <;> decide +kernel
theorem s_at {LL : List (List FldV)} {S : ByteArray} (h : bA (joinF LL) = S) {i : Nat} (hi : i < S.size) : S[i] = (joinF LL)[i]'(by subst h; rw [bA_size] at hi; exact hi) := by
  subst h
  exact bA_at _ hi
theorem join_consE (F : List FldV) (LL : List (List FldV)) : joinF (F :: LL) = wordsF true F ++ ([10] ++ joinF LL) := by unfold joinF; simp
theorem wrong_text (LL : List (List FldV)) (m pm b : Nat) (hp : posL LL m = pm) (hm : m ≤ LL.length) (hb : b < 8) {S : ByteArray} (hS : bA (joinF LL) = S) (hs : S.size ≤ 20000) : ∃ X, joinF (LL.take m ++ (wrF b :: LL.drop m)) = X ∧ S.extract 0 pm ++ wrS b ++ ⟨#[10]⟩ ++ S.extract pm S.size = bA X ∧ X.length ≤ 30000 := by
  subst hS; subst hp
  obtain ⟨h1, h2⟩ := pos_cut LL m
  refine ⟨_, rfl, ?_, ?_⟩
  · rw [h1, h2, joinF_appC, join_consE]
    unfold wrS
    rw [show (⟨#[10]⟩ : ByteArray) = bA [10] from rfl, bA_appL, bA_appL, bA_appL]
    simp
  · rw [joinF_appC, join_consE, List.length_append, List.length_append, List.length_append]
    have h3 := wrS_size b hb
    have h4 := congrArg List.length (join_split LL m)
    rw [List.length_append] at h4
    rw [bA_size] at hs
    unfold wrS at h3
    rw [bA_size] at h3
    simp
    omega
set_option maxRecDepth 100000 in
set_option maxHeartbeats 16000000 in
theorem walk (c : CfM) (ta : Option Addr) (tc : Nat) (wh bd : Int) (W : World) (ht : Env W) (hc : CfA c ta tc W) (hwh : 0 ≤ wh ∧ wh ≤ 255) (hbd : 0 ≤ bd ∧ bd ≤ 255) : Calls Tryd.prog 7 #[c.v (.slice ta c.T.length tc), .int .u8 wh, .int .u8 bd] W fun e w' => e = .returned (.bool true) ∧ Below W.heap.size W w' := by
  have hw : Below W.heap.size W W := Below.refl _ _
  have hbel := hw
  have HE := Lib.hid ht
  have HC := Lib.hid hc
  clear ht hc
  unfold CfM.v
  go_enter Tryd.func7, Tryd.ntmps7
  go_upto_region 1 with fail
  have cc0 : (W.alloc (.cells #[.int .i64 c.k0, .int .i64 c.k1, .int .i64 c.k2, .int .i64 c.a0, .int .i64 c.a1, .int .i64 c.a2, .slice ta c.T.length tc, .int .i64 c.per, .int .i64 c.ret, .int .i64 c.age, .int .i64 c.dead] 25)).cell? ⟨W.heap.size, 0, none⟩ = some (.int .i64 c.k0) := by first | (simp; done) | (rw [World.cell?_alloc_at _ _ _ _ (by simp)]; rfl) | (rw [World.cell?_alloc_past _ _ _ (by simp <;> omega), World.cell?_alloc_at _ _ _ _ (by simp)]; rfl) | (rw [World.cell?_alloc_past _ _ _ (by simp <;> omega), World.cell?_alloc_past _ _ _ (by simp <;> omega), World.cell?_alloc_at _ _ _ _ (by simp)]; rfl)
  have cc1 : (W.alloc (.cells #[.int .i64 c.k0, .int .i64 c.k1, .int .i64 c.k2, .int .i64 c.a0, .int .i64 c.a1, .int .i64 c.a2, .slice ta c.T.length tc, .int .i64 c.per, .int .i64 c.ret, .int .i64 c.age, .int .i64 c.dead] 25)).cell? ⟨W.heap.size, 1, none⟩ = some (.int .i64 c.k1) := by first | (simp; done) | (rw [World.cell?_alloc_at _ _ _ _ (by simp)]; rfl) | (rw [World.cell?_alloc_past _ _ _ (by simp <;> omega), World.cell?_alloc_at _ _ _ _ (by simp)]; rfl) | (rw [World.cell?_alloc_past _ _ _ (by simp <;> omega), World.cell?_alloc_past _ _ _ (by simp <;> omega), World.cell?_alloc_at _ _ _ _ (by simp)]; rfl)
  have cc2 : (W.alloc (.cells #[.int .i64 c.k0, .int .i64 c.k1, .int .i64 c.k2, .int .i64 c.a0, .int .i64 c.a1, .int .i64 c.a2, .slice ta c.T.length tc, .int .i64 c.per, .int .i64 c.ret, .int .i64 c.age, .int .i64 c.dead] 25)).cell? ⟨W.heap.size, 2, none⟩ = some (.int .i64 c.k2) := by first | (simp; done) | (rw [World.cell?_alloc_at _ _ _ _ (by simp)]; rfl) | (rw [World.cell?_alloc_past _ _ _ (by simp <;> omega), World.cell?_alloc_at _ _ _ _ (by simp)]; rfl) | (rw [World.cell?_alloc_past _ _ _ (by simp <;> omega), World.cell?_alloc_past _ _ _ (by simp <;> omega), World.cell?_alloc_at _ _ _ _ (by simp)]; rfl)
  have cc3 : (W.alloc (.cells #[.int .i64 c.k0, .int .i64 c.k1, .int .i64 c.k2, .int .i64 c.a0, .int .i64 c.a1, .int .i64 c.a2, .slice ta c.T.length tc, .int .i64 c.per, .int .i64 c.ret, .int .i64 c.age, .int .i64 c.dead] 25)).cell? ⟨W.heap.size, 3, none⟩ = some (.int .i64 c.a0) := by first | (simp; done) | (rw [World.cell?_alloc_at _ _ _ _ (by simp)]; rfl) | (rw [World.cell?_alloc_past _ _ _ (by simp <;> omega), World.cell?_alloc_at _ _ _ _ (by simp)]; rfl) | (rw [World.cell?_alloc_past _ _ _ (by simp <;> omega), World.cell?_alloc_past _ _ _ (by simp <;> omega), World.cell?_alloc_at _ _ _ _ (by simp)]; rfl)
  have cc4 : (W.alloc (.cells #[.int .i64 c.k0, .int .i64 c.k1, .int .i64 c.k2, .int .i64 c.a0, .int .i64 c.a1, .int .i64 c.a2, .slice ta c.T.length tc, .int .i64 c.per, .int .i64 c.ret, .int .i64 c.age, .int .i64 c.dead] 25)).cell? ⟨W.heap.size, 4, none⟩ = some (.int .i64 c.a1) := by first | (simp; done) | (rw [World.cell?_alloc_at _ _ _ _ (by simp)]; rfl) | (rw [World.cell?_alloc_past _ _ _ (by simp <;> omega), World.cell?_alloc_at _ _ _ _ (by simp)]; rfl) | (rw [World.cell?_alloc_past _ _ _ (by simp <;> omega), World.cell?_alloc_past _ _ _ (by simp <;> omega), World.cell?_alloc_at _ _ _ _ (by simp)]; rfl)
  have cc5 : (W.alloc (.cells #[.int .i64 c.k0, .int .i64 c.k1, .int .i64 c.k2, .int .i64 c.a0, .int .i64 c.a1, .int .i64 c.a2, .slice ta c.T.length tc, .int .i64 c.per, .int .i64 c.ret, .int .i64 c.age, .int .i64 c.dead] 25)).cell? ⟨W.heap.size, 5, none⟩ = some (.int .i64 c.a2) := by first | (simp; done) | (rw [World.cell?_alloc_at _ _ _ _ (by simp)]; rfl) | (rw [World.cell?_alloc_past _ _ _ (by simp <;> omega), World.cell?_alloc_at _ _ _ _ (by simp)]; rfl) | (rw [World.cell?_alloc_past _ _ _ (by simp <;> omega), World.cell?_alloc_past _ _ _ (by simp <;> omega), World.cell?_alloc_at _ _ _ _ (by simp)]; rfl)
  have cc6 : (W.alloc (.cells #[.int .i64 c.k0, .int .i64 c.k1, .int .i64 c.k2, .int .i64 c.a0, .int .i64 c.a1, .int .i64 c.a2, .slice ta c.T.length tc, .int .i64 c.per, .int .i64 c.ret, .int .i64 c.age, .int .i64 c.dead] 25)).cell? ⟨W.heap.size, 6, none⟩ = some (.slice ta c.T.length tc) := by first | (simp; done) | (rw [World.cell?_alloc_at _ _ _ _ (by simp)]; rfl) | (rw [World.cell?_alloc_past _ _ _ (by simp <;> omega), World.cell?_alloc_at _ _ _ _ (by simp)]; rfl) | (rw [World.cell?_alloc_past _ _ _ (by simp <;> omega), World.cell?_alloc_past _ _ _ (by simp <;> omega), World.cell?_alloc_at _ _ _ _ (by simp)]; rfl)
  have cc7 : (W.alloc (.cells #[.int .i64 c.k0, .int .i64 c.k1, .int .i64 c.k2, .int .i64 c.a0, .int .i64 c.a1, .int .i64 c.a2, .slice ta c.T.length tc, .int .i64 c.per, .int .i64 c.ret, .int .i64 c.age, .int .i64 c.dead] 25)).cell? ⟨W.heap.size, 7, none⟩ = some (.int .i64 c.per) := by first | (simp; done) | (rw [World.cell?_alloc_at _ _ _ _ (by simp)]; rfl) | (rw [World.cell?_alloc_past _ _ _ (by simp <;> omega), World.cell?_alloc_at _ _ _ _ (by simp)]; rfl) | (rw [World.cell?_alloc_past _ _ _ (by simp <;> omega), World.cell?_alloc_past _ _ _ (by simp <;> omega), World.cell?_alloc_at _ _ _ _ (by simp)]; rfl)
  have cc8 : (W.alloc (.cells #[.int .i64 c.k0, .int .i64 c.k1, .int .i64 c.k2, .int .i64 c.a0, .int .i64 c.a1, .int .i64 c.a2, .slice ta c.T.length tc, .int .i64 c.per, .int .i64 c.ret, .int .i64 c.age, .int .i64 c.dead] 25)).cell? ⟨W.heap.size, 8, none⟩ = some (.int .i64 c.ret) := by first | (simp; done) | (rw [World.cell?_alloc_at _ _ _ _ (by simp)]; rfl) | (rw [World.cell?_alloc_past _ _ _ (by simp <;> omega), World.cell?_alloc_at _ _ _ _ (by simp)]; rfl) | (rw [World.cell?_alloc_past _ _ _ (by simp <;> omega), World.cell?_alloc_past _ _ _ (by simp <;> omega), World.cell?_alloc_at _ _ _ _ (by simp)]; rfl)
  have cc9 : (W.alloc (.cells #[.int .i64 c.k0, .int .i64 c.k1, .int .i64 c.k2, .int .i64 c.a0, .int .i64 c.a1, .int .i64 c.a2, .slice ta c.T.length tc, .int .i64 c.per, .int .i64 c.ret, .int .i64 c.age, .int .i64 c.dead] 25)).cell? ⟨W.heap.size, 9, none⟩ = some (.int .i64 c.age) := by first | (simp; done) | (rw [World.cell?_alloc_at _ _ _ _ (by simp)]; rfl) | (rw [World.cell?_alloc_past _ _ _ (by simp <;> omega), World.cell?_alloc_at _ _ _ _ (by simp)]; rfl) | (rw [World.cell?_alloc_past _ _ _ (by simp <;> omega), World.cell?_alloc_past _ _ _ (by simp <;> omega), World.cell?_alloc_at _ _ _ _ (by simp)]; rfl)
  have cc10 : (W.alloc (.cells #[.int .i64 c.k0, .int .i64 c.k1, .int .i64 c.k2, .int .i64 c.a0, .int .i64 c.a1, .int .i64 c.a2, .slice ta c.T.length tc, .int .i64 c.per, .int .i64 c.ret, .int .i64 c.age, .int .i64 c.dead] 25)).cell? ⟨W.heap.size, 10, none⟩ = some (.int .i64 c.dead) := by first | (simp; done) | (rw [World.cell?_alloc_at _ _ _ _ (by simp)]; rfl) | (rw [World.cell?_alloc_past _ _ _ (by simp <;> omega), World.cell?_alloc_at _ _ _ _ (by simp)]; rfl) | (rw [World.cell?_alloc_past _ _ _ (by simp <;> omega), World.cell?_alloc_past _ _ _ (by simp <;> omega), World.cell?_alloc_at _ _ _ _ (by simp)]; rfl)
  have hb2 := (by repeat (first | exact hbel | refine belAlloc ?_ _ | refine belDrew ?_ | refine belSet ?_ _ _ (by simp)) : Below W.heap.size W (W.alloc (.cells #[.int .i64 c.k0, .int .i64 c.k1, .int .i64 c.k2, .int .i64 c.a0, .int .i64 c.a1, .int .i64 c.a2, .slice ta c.T.length tc, .int .i64 c.per, .int .i64 c.ret, .int .i64 c.age, .int .i64 c.dead] 25)))
  replace hw := belStep hw hb2
  have ccB : Blk (W.alloc (.cells #[.int .i64 c.k0, .int .i64 c.k1, .int .i64 c.k2, .int .i64 c.a0, .int .i64 c.a1, .int .i64 c.a2, .slice ta c.T.length tc, .int .i64 c.per, .int .i64 c.ret, .int .i64 c.age, .int .i64 c.dead] 25)) (W.heap.size) [.int .i64 c.k0, .int .i64 c.k1, .int .i64 c.k2, .int .i64 c.a0, .int .i64 c.a1, .int .i64 c.a2, .slice ta c.T.length tc, .int .i64 c.per, .int .i64 c.ret, .int .i64 c.age, .int .i64 c.dead] 25 := (Blk.at (by simp) : Blk (W.alloc (.cells #[.int .i64 c.k0, .int .i64 c.k1, .int .i64 c.k2, .int .i64 c.a0, .int .i64 c.a1, .int .i64 c.a2, .slice ta c.T.length tc, .int .i64 c.per, .int .i64 c.ret, .int .i64 c.age, .int .i64 c.dead] 25)) (W.heap.size) [.int .i64 c.k0, .int .i64 c.k1, .int .i64 c.k2, .int .i64 c.a0, .int .i64 c.a1, .int .i64 c.a2, .slice ta c.T.length tc, .int .i64 c.per, .int .i64 c.ret, .int .i64 c.age, .int .i64 c.dead] 25).later (by repeat (first | exact Below.refl _ _ | refine belAlloc ?_ _))
  have ccF := Blk.keepF ccB
  replace ccB := Blk.keepB ccB
  clear hb2 hbel
  generalize W.alloc (.cells #[.int .i64 c.k0, .int .i64 c.k1, .int .i64 c.k2, .int .i64 c.a0, .int .i64 c.a1, .int .i64 c.a2, .slice ta c.T.length tc, .int .i64 c.per, .int .i64 c.ret, .int .i64 c.age, .int .i64 c.dead] 25) = W1 at *
  replace cc0 := keep cc0
  replace cc1 := keep cc1
  replace cc2 := keep cc2
  replace cc3 := keep cc3
  replace cc4 := keep cc4
  replace cc5 := keep cc5
  replace cc6 := keep cc6
  replace cc7 := keep cc7
  replace cc8 := keep cc8
  replace cc9 := keep cc9
  replace cc10 := keep cc10
  have hbel : Below W1.heap.size W1 W1 := Below.refl _ _
  skip
  have HW := Lib.hid hw
  clear hw
  have HC1 := Lib.hid (HC.out.later HW.out)
  have HE1 := Lib.hid (HE.out.later HW.out)
  clear HC HE
  have CA := Lib.hid (fun u (hu : Below W1.heap.size W1 u) => awake07 u (HE1.out.later hu))
  have CF := Lib.hid (fun u => few7 c ta tc u)
  obtain ⟨f1, hf1⟩ : ∃ x, decide (c.T.length ≤ 30) = x := ⟨_, rfl⟩
  rw [hf1] at CF
  clear hf1
  have CQ := Lib.hid (fun u (hu : Below W1.heap.size W1 u) => rf_Right7 c ta tc u (HC1.out.later hu))
  obtain ⟨r, hr⟩ : ∃ x, rightM c = x := ⟨_, rfl⟩
  rw [hr] at CQ
  cases f1 with
  | false =>
    go_wp2_with (first | (go_at_call 8; (with_reducible refine (CA.out _ hbel).mono ?_); rintro e w1 ⟨rfl, hb1⟩; replace hbel := belStep hbel hb1; clear hb1) | (go_at_call 9; (with_reducible refine (CF.out _).mono ?_); rintro e w1 ⟨rfl, hb1⟩; replace hbel := belStep hbel hb1; clear hb1) | (go_at_call 12; (with_reducible refine (CQ.out _ hbel).mono ?_); rintro e w1 ⟨rfl, hb1⟩; replace hbel := belStep hbel hb1; clear hb1))
    go_ret
    exact ⟨rfl, belStep HW.out hbel⟩
  | true =>
    cases r with
    | false =>
      go_wp2_with (first | (go_at_call 8; (with_reducible refine (CA.out _ hbel).mono ?_); rintro e w1 ⟨rfl, hb1⟩; replace hbel := belStep hbel hb1; clear hb1) | (go_at_call 9; (with_reducible refine (CF.out _).mono ?_); rintro e w1 ⟨rfl, hb1⟩; replace hbel := belStep hbel hb1; clear hb1) | (go_at_call 12; (with_reducible refine (CQ.out _ hbel).mono ?_); rintro e w1 ⟨rfl, hb1⟩; replace hbel := belStep hbel hb1; clear hb1))
      go_ret
      exact ⟨rfl, belStep HW.out hbel⟩
    | true =>
      have hcr := hr
      have HCR := Lib.hid hcr
      clear hr hcr
      have CV := Lib.hid (fun u (hu : Below W1.heap.size W1 u) => rf_Print7 c ta tc u (HC1.out.later hu) (right_of c HCR.out).2 (right_of c HCR.out).1)
      have hdok : ({ c with k0 := 0, a1 := 0 } : CfM).ok := (none_facts c HC1.out.ok HCR.out).1
      have CD := Lib.hid (show ∀ u, Below W1.heap.size W1 u → Calls Tryd.prog 15 #[.agg #[.int .i64 0, .int .i64 c.k1, .int .i64 c.k2, .int .i64 c.a0, .int .i64 0, .int .i64 c.a2, .slice ta c.T.length tc, .int .i64 c.per, .int .i64 c.ret, .int .i64 c.age, .int .i64 c.dead]] u fun e w' => e = .returned (.string (bA (joinF (printC ({ c with k0 := 0, a1 := 0 } : CfM))))) ∧ Below u.heap.size u w' from fun u hu => rf_Print7 ({ c with k0 := 0, a1 := 0 } : CfM) ta tc u ⟨hdok, (HC1.out.later hu).row⟩ (right_of c HCR.out).2 (right_of c HCR.out).1)
      have hJ1 := none_read c HC1.out.ok HCR.out
      have hJ2 := (none_facts c HC1.out.ok HCR.out).2
      generalize joinF (printC ({ c with k0 := 0, a1 := 0 } : CfM)) = J2 at *
      have HD1 := Lib.hid hJ1
      have HD2 := Lib.hid hJ2
      clear hJ1 hJ2 hdok
      have hok := (CfP.of HC1.out.ok HCR.out).print
      have hwr := fun m (hm : m ≤ (printC c).length) b (hb : b < 8) => wrong_read c HC1.out.ok HCR.out m hm (wrF b) ⟨(wrF_ok b hb).1, (wrF_ok b hb).2.1⟩ (wrF_ok b hb).2.2 (wrF_bad b hb)
      have hL0 := text_len c HC1.out.ok HCR.out
      have hL1 : 0 < (printC c).length := by rw [print_len]; omega
      have hL3 : (printC c).length ≤ 18 := by rw [print_len]; have := (right_of c HCR.out).1; omega
      generalize printC c = LL at *
      obtain ⟨S, hS⟩ : ∃ s, bA (joinF LL) = s := ⟨_, rfl⟩
      have hsz : S.size = (joinF LL).length := by rw [← hS]; exact bA_size _
      rw [hS] at CV
      have HOK := Lib.hid hok
      have HWR := Lib.hid hwr
      have HS := Lib.hid hS
      have HSZ := Lib.hid hsz
      have HLZ := Lib.hid (LineAt.zero hL1)
      have hs2 : S.size ≤ 20000 := by omega
      have HL3 := Lib.hid hL3
      clear hok hwr hS hsz hL0 hL1 hL3
      obtain ⟨kk, hkk⟩ : ∃ n : Nat, wh % 12 = n := ⟨(wh % 12).toNat, by omega⟩
      have hk12 : kk < 12 := by omega
      have hit : wh.tmod 12 = (kk : Int) := by rw [Int.tmod_eq_emod_of_nonneg hwh.1]; exact hkk
      obtain ⟨b, hb⟩ : ∃ n : Nat, bd % 8 = n := ⟨(bd % 8).toNat, by omega⟩
      have hb8 : b < 8 := by omega
      have hbt : bd.tmod 8 = (b : Int) := by rw [Int.tmod_eq_emod_of_nonneg hbd.1]; exact hb
      have wi1 : IntKind.i64.wrap wh = wh := IntWalk.i64_in _ (by omega)
      have wi2 : IntKind.i64.wrap (kk : Int) = (kk : Int) := IntWalk.i64_in _ (by omega)
      have wi3 : IntKind.u8.wrap (b : Int) = (b : Int) := IntWalk.u8_in _ (by omega)
      have HBB := Lib.hid (And.intro hbt wi3)
      clear hbt wi3 hkk hb hwh hbd
      go_upto_region 4 with (first | (go_at_call 8; (with_reducible refine (CA.out _ hbel).mono ?_); rintro e w1 ⟨rfl, hb1⟩; replace hbel := belStep hbel hb1; clear hb1) | (go_at_call 9; (with_reducible refine (CF.out _).mono ?_); rintro e w1 ⟨rfl, hb1⟩; replace hbel := belStep hbel hb1; clear hb1) | (go_at_call 12; (with_reducible refine (CQ.out _ hbel).mono ?_); rintro e w1 ⟨rfl, hb1⟩; replace hbel := belStep hbel hb1; clear hb1) | (go_at_call 15; (with_reducible refine (CV.out _ hbel).mono ?_); rintro e w1 ⟨rfl, hb1⟩; replace hbel := belStep hbel hb1; clear hb1))
      clear CV
      go_wp2
      go_loopg [8, 9, 11] S.size (fun gv fv lv iv wr => ∃ (i m pm : Nat), i + gv = S.size ∧ fv = .int .i64 pm ∧ lv = .int .i64 ((m : Int) + 1) ∧ iv = .int .i64 i ∧ Hid (posL LL m = pm) ∧ Hid (LineAt LL i m) ∧ Below W1.heap.size W1 wr)
      case atStart => exact ⟨0, 0, 0, by omega, rfl, rfl, rfl, Lib.hid (posL_zero _), HLZ, hbel⟩
      case round =>
        obtain ⟨i, m, pm, hig, rfl, rfl, rfl, HPM, HLA, hbel⟩ := hrel
        cases gk with
        | zero =>
          obtain rfl : i = S.size := by omega
          have hd : decide ((S.size : Int) < (S.size : Int)) = false := decide_eq_false (by omega)
          clear hit wi1 wi2
          obtain ⟨hbt, wi3⟩ := HBB.out
          have hmL := HLA.out.hm
          have hm18 : m ≤ 18 := Nat.le_trans hmL HL3.out
          have hpS : pm ≤ S.size := by rw [HSZ.out, ← HPM.out]; exact posL_le LL m
          obtain ⟨X, hX1, hX2, hX3⟩ := wrong_text LL m pm b HPM.out hmL hb8 HS.out hs2
          have HX := Lib.hid (hX1 ▸ HWR.out m hmL b hb8 : confF X = .error ((m : Int) + 1, 2))
          have HXX := Lib.hid hX2
          clear hX1 hX2
          go_upto_region 14 with fail
          have hw := Below.refl W1.heap.size W1
          have ww0 : (wr.alloc (.cells #[.string ⟨#[111, 116, 104, 101, 114, 32, 49]⟩, .string ⟨#[112, 101, 114, 105, 111, 100]⟩, .string ⟨#[112, 101, 114, 105, 111, 100, 32, 49, 32, 50]⟩, .string ⟨#[114, 101, 116, 114, 105, 101, 115, 32, 120]⟩, .string ⟨#[116, 104, 114, 101, 115, 104, 111, 108, 100]⟩, .string ⟨#[116, 104, 114, 101, 115, 104, 111, 108, 100, 32, 112, 105, 100, 60, 48]⟩, .string ⟨#[99, 97, 112, 97, 99, 105, 116, 121, 32, 49, 32, 50]⟩, .string ⟨#[100, 101, 97, 100, 32, 45, 49]⟩] 9)).cell? ⟨wr.heap.size, 0, none⟩ = some (.string ⟨#[111, 116, 104, 101, 114, 32, 49]⟩) := by first | (simp; done) | (rw [World.cell?_alloc_at _ _ _ _ (by simp)]; rfl) | (rw [World.cell?_alloc_past _ _ _ (by simp <;> omega), World.cell?_alloc_at _ _ _ _ (by simp)]; rfl) | (rw [World.cell?_alloc_past _ _ _ (by simp <;> omega), World.cell?_alloc_past _ _ _ (by simp <;> omega), World.cell?_alloc_at _ _ _ _ (by simp)]; rfl)
          have ww1 : (wr.alloc (.cells #[.string ⟨#[111, 116, 104, 101, 114, 32, 49]⟩, .string ⟨#[112, 101, 114, 105, 111, 100]⟩, .string ⟨#[112, 101, 114, 105, 111, 100, 32, 49, 32, 50]⟩, .string ⟨#[114, 101, 116, 114, 105, 101, 115, 32, 120]⟩, .string ⟨#[116, 104, 114, 101, 115, 104, 111, 108, 100]⟩, .string ⟨#[116, 104, 114, 101, 115, 104, 111, 108, 100, 32, 112, 105, 100, 60, 48]⟩, .string ⟨#[99, 97, 112, 97, 99, 105, 116, 121, 32, 49, 32, 50]⟩, .string ⟨#[100, 101, 97, 100, 32, 45, 49]⟩] 9)).cell? ⟨wr.heap.size, 1, none⟩ = some (.string ⟨#[112, 101, 114, 105, 111, 100]⟩) := by first | (simp; done) | (rw [World.cell?_alloc_at _ _ _ _ (by simp)]; rfl) | (rw [World.cell?_alloc_past _ _ _ (by simp <;> omega), World.cell?_alloc_at _ _ _ _ (by simp)]; rfl) | (rw [World.cell?_alloc_past _ _ _ (by simp <;> omega), World.cell?_alloc_past _ _ _ (by simp <;> omega), World.cell?_alloc_at _ _ _ _ (by simp)]; rfl)
          have ww2 : (wr.alloc (.cells #[.string ⟨#[111, 116, 104, 101, 114, 32, 49]⟩, .string ⟨#[112, 101, 114, 105, 111, 100]⟩, .string ⟨#[112, 101, 114, 105, 111, 100, 32, 49, 32, 50]⟩, .string ⟨#[114, 101, 116, 114, 105, 101, 115, 32, 120]⟩, .string ⟨#[116, 104, 114, 101, 115, 104, 111, 108, 100]⟩, .string ⟨#[116, 104, 114, 101, 115, 104, 111, 108, 100, 32, 112, 105, 100, 60, 48]⟩, .string ⟨#[99, 97, 112, 97, 99, 105, 116, 121, 32, 49, 32, 50]⟩, .string ⟨#[100, 101, 97, 100, 32, 45, 49]⟩] 9)).cell? ⟨wr.heap.size, 2, none⟩ = some (.string ⟨#[112, 101, 114, 105, 111, 100, 32, 49, 32, 50]⟩) := by first | (simp; done) | (rw [World.cell?_alloc_at _ _ _ _ (by simp)]; rfl) | (rw [World.cell?_alloc_past _ _ _ (by simp <;> omega), World.cell?_alloc_at _ _ _ _ (by simp)]; rfl) | (rw [World.cell?_alloc_past _ _ _ (by simp <;> omega), World.cell?_alloc_past _ _ _ (by simp <;> omega), World.cell?_alloc_at _ _ _ _ (by simp)]; rfl)
          have ww3 : (wr.alloc (.cells #[.string ⟨#[111, 116, 104, 101, 114, 32, 49]⟩, .string ⟨#[112, 101, 114, 105, 111, 100]⟩, .string ⟨#[112, 101, 114, 105, 111, 100, 32, 49, 32, 50]⟩, .string ⟨#[114, 101, 116, 114, 105, 101, 115, 32, 120]⟩, .string ⟨#[116, 104, 114, 101, 115, 104, 111, 108, 100]⟩, .string ⟨#[116, 104, 114, 101, 115, 104, 111, 108, 100, 32, 112, 105, 100, 60, 48]⟩, .string ⟨#[99, 97, 112, 97, 99, 105, 116, 121, 32, 49, 32, 50]⟩, .string ⟨#[100, 101, 97, 100, 32, 45, 49]⟩] 9)).cell? ⟨wr.heap.size, 3, none⟩ = some (.string ⟨#[114, 101, 116, 114, 105, 101, 115, 32, 120]⟩) := by first | (simp; done) | (rw [World.cell?_alloc_at _ _ _ _ (by simp)]; rfl) | (rw [World.cell?_alloc_past _ _ _ (by simp <;> omega), World.cell?_alloc_at _ _ _ _ (by simp)]; rfl) | (rw [World.cell?_alloc_past _ _ _ (by simp <;> omega), World.cell?_alloc_past _ _ _ (by simp <;> omega), World.cell?_alloc_at _ _ _ _ (by simp)]; rfl)
          have ww4 : (wr.alloc (.cells #[.string ⟨#[111, 116, 104, 101, 114, 32, 49]⟩, .string ⟨#[112, 101, 114, 105, 111, 100]⟩, .string ⟨#[112, 101, 114, 105, 111, 100, 32, 49, 32, 50]⟩, .string ⟨#[114, 101, 116, 114, 105, 101, 115, 32, 120]⟩, .string ⟨#[116, 104, 114, 101, 115, 104, 111, 108, 100]⟩, .string ⟨#[116, 104, 114, 101, 115, 104, 111, 108, 100, 32, 112, 105, 100, 60, 48]⟩, .string ⟨#[99, 97, 112, 97, 99, 105, 116, 121, 32, 49, 32, 50]⟩, .string ⟨#[100, 101, 97, 100, 32, 45, 49]⟩] 9)).cell? ⟨wr.heap.size, 4, none⟩ = some (.string ⟨#[116, 104, 114, 101, 115, 104, 111, 108, 100]⟩) := by first | (simp; done) | (rw [World.cell?_alloc_at _ _ _ _ (by simp)]; rfl) | (rw [World.cell?_alloc_past _ _ _ (by simp <;> omega), World.cell?_alloc_at _ _ _ _ (by simp)]; rfl) | (rw [World.cell?_alloc_past _ _ _ (by simp <;> omega), World.cell?_alloc_past _ _ _ (by simp <;> omega), World.cell?_alloc_at _ _ _ _ (by simp)]; rfl)
          have ww5 : (wr.alloc (.cells #[.string ⟨#[111, 116, 104, 101, 114, 32, 49]⟩, .string ⟨#[112, 101, 114, 105, 111, 100]⟩, .string ⟨#[112, 101, 114, 105, 111, 100, 32, 49, 32, 50]⟩, .string ⟨#[114, 101, 116, 114, 105, 101, 115, 32, 120]⟩, .string ⟨#[116, 104, 114, 101, 115, 104, 111, 108, 100]⟩, .string ⟨#[116, 104, 114, 101, 115, 104, 111, 108, 100, 32, 112, 105, 100, 60, 48]⟩, .string ⟨#[99, 97, 112, 97, 99, 105, 116, 121, 32, 49, 32, 50]⟩, .string ⟨#[100, 101, 97, 100, 32, 45, 49]⟩] 9)).cell? ⟨wr.heap.size, 5, none⟩ = some (.string ⟨#[116, 104, 114, 101, 115, 104, 111, 108, 100, 32, 112, 105, 100, 60, 48]⟩) := by first | (simp; done) | (rw [World.cell?_alloc_at _ _ _ _ (by simp)]; rfl) | (rw [World.cell?_alloc_past _ _ _ (by simp <;> omega), World.cell?_alloc_at _ _ _ _ (by simp)]; rfl) | (rw [World.cell?_alloc_past _ _ _ (by simp <;> omega), World.cell?_alloc_past _ _ _ (by simp <;> omega), World.cell?_alloc_at _ _ _ _ (by simp)]; rfl)
          have ww6 : (wr.alloc (.cells #[.string ⟨#[111, 116, 104, 101, 114, 32, 49]⟩, .string ⟨#[112, 101, 114, 105, 111, 100]⟩, .string ⟨#[112, 101, 114, 105, 111, 100, 32, 49, 32, 50]⟩, .string ⟨#[114, 101, 116, 114, 105, 101, 115, 32, 120]⟩, .string ⟨#[116, 104, 114, 101, 115, 104, 111, 108, 100]⟩, .string ⟨#[116, 104, 114, 101, 115, 104, 111, 108, 100, 32, 112, 105, 100, 60, 48]⟩, .string ⟨#[99, 97, 112, 97, 99, 105, 116, 121, 32, 49, 32, 50]⟩, .string ⟨#[100, 101, 97, 100, 32, 45, 49]⟩] 9)).cell? ⟨wr.heap.size, 6, none⟩ = some (.string ⟨#[99, 97, 112, 97, 99, 105, 116, 121, 32, 49, 32, 50]⟩) := by first | (simp; done) | (rw [World.cell?_alloc_at _ _ _ _ (by simp)]; rfl) | (rw [World.cell?_alloc_past _ _ _ (by simp <;> omega), World.cell?_alloc_at _ _ _ _ (by simp)]; rfl) | (rw [World.cell?_alloc_past _ _ _ (by simp <;> omega), World.cell?_alloc_past _ _ _ (by simp <;> omega), World.cell?_alloc_at _ _ _ _ (by simp)]; rfl)
          have ww7 : (wr.alloc (.cells #[.string ⟨#[111, 116, 104, 101, 114, 32, 49]⟩, .string ⟨#[112, 101, 114, 105, 111, 100]⟩, .string ⟨#[112, 101, 114, 105, 111, 100, 32, 49, 32, 50]⟩, .string ⟨#[114, 101, 116, 114, 105, 101, 115, 32, 120]⟩, .string ⟨#[116, 104, 114, 101, 115, 104, 111, 108, 100]⟩, .string ⟨#[116, 104, 114, 101, 115, 104, 111, 108, 100, 32, 112, 105, 100, 60, 48]⟩, .string ⟨#[99, 97, 112, 97, 99, 105, 116, 121, 32, 49, 32, 50]⟩, .string ⟨#[100, 101, 97, 100, 32, 45, 49]⟩] 9)).cell? ⟨wr.heap.size, 7, none⟩ = some (.string ⟨#[100, 101, 97, 100, 32, 45, 49]⟩) := by first | (simp; done) | (rw [World.cell?_alloc_at _ _ _ _ (by simp)]; rfl) | (rw [World.cell?_alloc_past _ _ _ (by simp <;> omega), World.cell?_alloc_at _ _ _ _ (by simp)]; rfl) | (rw [World.cell?_alloc_past _ _ _ (by simp <;> omega), World.cell?_alloc_past _ _ _ (by simp <;> omega), World.cell?_alloc_at _ _ _ _ (by simp)]; rfl)
          have hb2 := (by repeat (first | exact hbel | refine belAlloc ?_ _ | refine belDrew ?_ | refine belSet ?_ _ _ (by simp)) : Below W1.heap.size W1 (wr.alloc (.cells #[.string ⟨#[111, 116, 104, 101, 114, 32, 49]⟩, .string ⟨#[112, 101, 114, 105, 111, 100]⟩, .string ⟨#[112, 101, 114, 105, 111, 100, 32, 49, 32, 50]⟩, .string ⟨#[114, 101, 116, 114, 105, 101, 115, 32, 120]⟩, .string ⟨#[116, 104, 114, 101, 115, 104, 111, 108, 100]⟩, .string ⟨#[116, 104, 114, 101, 115, 104, 111, 108, 100, 32, 112, 105, 100, 60, 48]⟩, .string ⟨#[99, 97, 112, 97, 99, 105, 116, 121, 32, 49, 32, 50]⟩, .string ⟨#[100, 101, 97, 100, 32, 45, 49]⟩] 9)))
          replace cc0 := keepOnP cc0 hb2
          replace cc1 := keepOnP cc1 hb2
          replace cc2 := keepOnP cc2 hb2
          replace cc3 := keepOnP cc3 hb2
          replace cc4 := keepOnP cc4 hb2
          replace cc5 := keepOnP cc5 hb2
          replace cc6 := keepOnP cc6 hb2
          replace cc7 := keepOnP cc7 hb2
          replace cc8 := keepOnP cc8 hb2
          replace cc9 := keepOnP cc9 hb2
          replace cc10 := keepOnP cc10 hb2
          replace hw := belStep hw hb2
          clear hb2 hbel
          generalize wr.alloc (.cells #[.string ⟨#[111, 116, 104, 101, 114, 32, 49]⟩, .string ⟨#[112, 101, 114, 105, 111, 100]⟩, .string ⟨#[112, 101, 114, 105, 111, 100, 32, 49, 32, 50]⟩, .string ⟨#[114, 101, 116, 114, 105, 101, 115, 32, 120]⟩, .string ⟨#[116, 104, 114, 101, 115, 104, 111, 108, 100]⟩, .string ⟨#[116, 104, 114, 101, 115, 104, 111, 108, 100, 32, 112, 105, 100, 60, 48]⟩, .string ⟨#[99, 97, 112, 97, 99, 105, 116, 121, 32, 49, 32, 50]⟩, .string ⟨#[100, 101, 97, 100, 32, 45, 49]⟩] 9) = W5 at *
          replace ww0 := keep ww0
          replace ww1 := keep ww1
          replace ww2 := keep ww2
          replace ww3 := keep ww3
          replace ww4 := keep ww4
          replace ww5 := keep ww5
          replace ww6 := keep ww6
          replace ww7 := keep ww7
          generalize wr.heap.size = g5 at *
          have hbel : Below W5.heap.size W5 W5 := Below.refl _ _
          clear wr
          have HW5 := Lib.hid hw
          clear hw ccB ccF
          have hwb : ∀ u, Below W5.heap.size W5 u → u.cell? ⟨g5, b, none⟩ = some (.string (wrS b)) := by rcases (show b = 0 ∨ b = 1 ∨ b = 2 ∨ b = 3 ∨ b = 4 ∨ b = 5 ∨ b = 6 ∨ b = 7 by omega) with rfl | rfl | rfl | rfl | rfl | rfl | rfl | rfl <;> first | exact ww0 | exact ww1 | exact ww2 | exact ww3 | exact ww4 | exact ww5 | exact ww6 | exact ww7
          clear ww0 ww1 ww2 ww3 ww4 ww5 ww6 ww7
          have HEW := Lib.hid (fun u (hu : Below W5.heap.size W5 u) => HE1.out.later (belStep HW5.out hu))
          have hb0 : (0 : Int) ≤ (b : Int) := by omega
          have hb9 : (b : Int) < 8 := by omega
          have hp0 : (0 : Int) ≤ (pm : Int) := by omega
          have hp1 : (pm : Int) ≤ (S.size : Int) := by omega
          have hws := wrS_size b hb8
          have h10s : (⟨#[10]⟩ : ByteArray).size = 1 := rfl
          have hxx := HXX.out
          refine wp_region_held_drew (S := fun u => Below W5.heap.size W5 u) (by kernel_rfl) (by exact (show Below W5.heap.size W5 _ by repeat (first | assumption | exact Below.refl _ _ | refine belDrew ?_ | refine belAlloc ?_ _ | refine belStep ?_ (by assumption)))) (fun hHeld => ?_)
          refine wpAnyH_take (i := 0) (oi := ?oi_k42) (v := ?v_k42) ?hi_k42 (by kernel_rfl) ?hf_k42 ?hr_k42 ?hQ_k42 (Or.inl ⟨?hw_k42, ?hy_k42⟩) (by assumption) ?rest_k42
          case hi_k42 => ((simp only [List.getElem?_toArray, List.getElem?_cons_succ, List.getElem?_cons_zero]); rfl)
          case hf_k42 => kernel_rfl
          case hr_k42 => kernel_rfl
          case hQ_k42 => exact fun _ _ _ h => h
          case hw_k42 => rfl
          case hy_k42 => ((intro w hSw; (try dsimp only at hSw); go_simp; (try rw [if_neg (by omega)])); all_goals (with_reducible rfl))
          try simp only [Act.put, List.setIfInBounds_toArray, List.set_cons_zero, List.set_cons_succ]
          refine wpAnyH_take (i := 1) (oi := ?oi_k43) (v := ?v_k43) ?hi_k43 (by kernel_rfl) ?hf_k43 ?hr_k43 ?hQ_k43 (Or.inl ⟨?hw_k43, ?hy_k43⟩) (by assumption) ?rest_k43
          case hi_k43 => ((simp only [List.getElem?_toArray, List.getElem?_cons_succ, List.getElem?_cons_zero]); rfl)
          case hf_k43 => kernel_rfl
          case hr_k43 => kernel_rfl
          case hQ_k43 => exact fun _ _ _ h => h
          case hw_k43 => rfl
          case hy_k43 => ((intro w hSw; (try dsimp only at hSw); go_simp; (try rw [if_neg (by omega)])); all_goals (with_reducible rfl))
          try simp only [Act.put, List.setIfInBounds_toArray, List.set_cons_zero, List.set_cons_succ]
          refine wpAnyH_take (i := 2) (oi := ?oi_k44) (v := ?v_k44) ?hi_k44 (by kernel_rfl) ?hf_k44 ?hr_k44 ?hQ_k44 (Or.inl ⟨?hw_k44, ?hy_k44⟩) (by assumption) ?rest_k44
          case hi_k44 => ((simp only [List.getElem?_toArray, List.getElem?_cons_succ, List.getElem?_cons_zero]); rfl)
          case hf_k44 => kernel_rfl
          case hr_k44 => kernel_rfl
          case hQ_k44 => exact fun _ _ _ h => h
          case hw_k44 => rfl
          case hy_k44 => ((intro w hSw; (try dsimp only at hSw); go_simp; (try rw [if_neg (by omega)])); all_goals (with_reducible rfl))
          try simp only [Act.put, List.setIfInBounds_toArray, List.set_cons_zero, List.set_cons_succ]
          refine wpAnyH_take (i := 3) (oi := ?oi_k45) (v := ?v_k45) ?hi_k45 (by kernel_rfl) ?hf_k45 ?hr_k45 ?hQ_k45 (Or.inl ⟨?hw_k45, ?hy_k45⟩) (by assumption) ?rest_k45
          case hi_k45 => ((simp only [List.getElem?_toArray, List.getElem?_cons_succ, List.getElem?_cons_zero]); rfl)
          case hf_k45 => kernel_rfl
          case hr_k45 => kernel_rfl
          case hQ_k45 => exact fun _ _ _ h => h
          case hw_k45 => rfl
          case hy_k45 => ((intro w hSw; (try dsimp only at hSw); go_simp; (try rw [if_neg (by omega)])); all_goals (with_reducible rfl))
          try simp only [Act.put, List.setIfInBounds_toArray, List.set_cons_zero, List.set_cons_succ]
          refine wpAnyH_take (i := 4) (oi := ?oi_k46) (v := ?v_k46) ?hi_k46 (by kernel_rfl) ?hf_k46 ?hr_k46 ?hQ_k46 (Or.inl ⟨?hw_k46, ?hy_k46⟩) (by assumption) ?rest_k46
          case hi_k46 => ((simp only [List.getElem?_toArray, List.getElem?_cons_succ, List.getElem?_cons_zero]); rfl)
          case hf_k46 => kernel_rfl
          case hr_k46 => kernel_rfl
          case hQ_k46 => exact fun _ _ _ h => h
          case hw_k46 => rfl
          case hy_k46 => ((intro w hSw; (try dsimp only at hSw); go_simp; (try rw [if_neg (by omega)])); all_goals (with_reducible rfl))
          try simp only [Act.put, List.setIfInBounds_toArray, List.set_cons_zero, List.set_cons_succ]
          refine wpAnyH_take (i := 5) (oi := ?oi_k47) (v := ?v_k47) ?hi_k47 (by kernel_rfl) ?hf_k47 ?hr_k47 ?hQ_k47 (Or.inl ⟨?hw_k47, ?hy_k47⟩) (by assumption) ?rest_k47
          case hi_k47 => ((simp only [List.getElem?_toArray, List.getElem?_cons_succ, List.getElem?_cons_zero]); rfl)
          case hf_k47 => kernel_rfl
          case hr_k47 => kernel_rfl
          case hQ_k47 => exact fun _ _ _ h => h
          case hw_k47 => rfl
          case hy_k47 => ((intro w hSw; (try dsimp only at hSw); go_simp; (try rw [if_neg (by omega)])); all_goals (with_reducible rfl))
          try simp only [Act.put, List.setIfInBounds_toArray, List.set_cons_zero, List.set_cons_succ]
          refine wpAnyH_take (i := 6) (oi := ?oi_k48) (v := ?v_k48) ?hi_k48 (by kernel_rfl) ?hf_k48 ?hr_k48 ?hQ_k48 (Or.inl ⟨?hw_k48, ?hy_k48⟩) (by assumption) ?rest_k48
          case hi_k48 => ((simp only [List.getElem?_toArray, List.getElem?_cons_succ, List.getElem?_cons_zero]); rfl)
          case hf_k48 => kernel_rfl
          case hr_k48 => kernel_rfl
          case hQ_k48 => exact fun _ _ _ h => h
          case hw_k48 => rfl
          case hy_k48 => ((intro w hSw; (try dsimp only at hSw); go_simp; (try rw [if_neg (by omega)])); all_goals (with_reducible rfl))
          try simp only [Act.put, List.setIfInBounds_toArray, List.set_cons_zero, List.set_cons_succ]
          refine wpAnyH_take (i := 7) (oi := ?oi_k49) (v := ?v_k49) ?hi_k49 (by kernel_rfl) ?hf_k49 ?hr_k49 ?hQ_k49 (Or.inl ⟨?hw_k49, ?hy_k49⟩) (by assumption) ?rest_k49
          case hi_k49 => ((simp only [List.getElem?_toArray, List.getElem?_cons_succ, List.getElem?_cons_zero]); rfl)
          case hf_k49 => kernel_rfl
          case hr_k49 => kernel_rfl
          case hQ_k49 => exact fun _ _ _ h => h
          case hw_k49 => rfl
          case hy_k49 => ((intro w hSw; (try dsimp only at hSw); have hcx := hwb w hSw; go_simp; (try rw [if_neg (by omega)])); all_goals (with_reducible rfl))
          try simp only [Act.put, List.setIfInBounds_toArray, List.set_cons_zero, List.set_cons_succ]
          refine wpAnyH_take (i := 8) (oi := ?oi_k50) (v := ?v_k50) ?hi_k50 (by kernel_rfl) ?hf_k50 ?hr_k50 ?hQ_k50 (Or.inl ⟨?hw_k50, ?hy_k50⟩) (by assumption) ?rest_k50
          case hi_k50 => ((simp only [List.getElem?_toArray, List.getElem?_cons_succ, List.getElem?_cons_zero]); rfl)
          case hf_k50 => kernel_rfl
          case hr_k50 => kernel_rfl
          case hQ_k50 => exact fun _ _ _ h => h
          case hw_k50 => rfl
          case hy_k50 => ((intro w hSw; (try dsimp only at hSw); go_simp; (try rw [if_neg (by omega)])); all_goals (with_reducible rfl))
          try simp only [Act.put, List.setIfInBounds_toArray, List.set_cons_zero, List.set_cons_succ]
          refine wpAnyH_take (i := 9) (oi := ?oi_k51) (v := ?v_k51) ?hi_k51 (by kernel_rfl) ?hf_k51 ?hr_k51 ?hQ_k51 (Or.inl ⟨?hw_k51, ?hy_k51⟩) (by assumption) ?rest_k51
          case hi_k51 => ((simp only [List.getElem?_toArray, List.getElem?_cons_succ, List.getElem?_cons_zero]); rfl)
          case hf_k51 => kernel_rfl
          case hr_k51 => kernel_rfl
          case hQ_k51 => exact fun _ _ _ h => h
          case hw_k51 => rfl
          case hy_k51 => ((intro w hSw; (try dsimp only at hSw); go_simp; (try rw [if_neg (by omega)])); all_goals (with_reducible rfl))
          try simp only [Act.put, List.setIfInBounds_toArray, List.set_cons_zero, List.set_cons_succ]
          refine wpAnyH_take (i := 10) (oi := ?oi_k52) (v := ?v_k52) ?hi_k52 (by kernel_rfl) ?hf_k52 ?hr_k52 ?hQ_k52 (Or.inl ⟨?hw_k52, ?hy_k52⟩) (by assumption) ?rest_k52
          case hi_k52 => ((simp only [List.getElem?_toArray, List.getElem?_cons_succ, List.getElem?_cons_zero]); rfl)
          case hf_k52 => kernel_rfl
          case hr_k52 => kernel_rfl
          case hQ_k52 => exact fun _ _ _ h => h
          case hw_k52 => rfl
          case hy_k52 => ((intro w hSw; (try dsimp only at hSw); go_simp; (try rw [if_neg (by omega)])); all_goals (with_reducible rfl))
          try simp only [Act.put, List.setIfInBounds_toArray, List.set_cons_zero, List.set_cons_succ]
          refine wpAnyH_take (i := 11) (oi := ?oi_k53) (v := ?v_k53) ?hi_k53 (by kernel_rfl) ?hf_k53 ?hr_k53 ?hQ_k53 (Or.inl ⟨?hw_k53, ?hy_k53⟩) (by assumption) ?rest_k53
          case hi_k53 => ((simp only [List.getElem?_toArray, List.getElem?_cons_succ, List.getElem?_cons_zero]); rfl)
          case hf_k53 => kernel_rfl
          case hr_k53 => kernel_rfl
          case hQ_k53 => exact fun _ _ _ h => h
          case hw_k53 => rfl
          case hy_k53 => ((intro w hSw; (try dsimp only at hSw); go_simp; (try rw [if_neg (by omega)])); all_goals (with_reducible rfl))
          try simp only [Act.put, List.setIfInBounds_toArray, List.set_cons_zero, List.set_cons_succ]
          refine wpAnyH_take (i := 12) (oi := ?oi_k54) (v := ?v_k54) ?hi_k54 (by kernel_rfl) ?hf_k54 ?hr_k54 ?hQ_k54 (Or.inl ⟨?hw_k54, ?hy_k54⟩) (by assumption) ?rest_k54
          case hi_k54 => ((simp only [List.getElem?_toArray, List.getElem?_cons_succ, List.getElem?_cons_zero]); rfl)
          case hf_k54 => kernel_rfl
          case hr_k54 => kernel_rfl
          case hQ_k54 => exact fun _ _ _ h => h
          case hw_k54 => rfl
          case hy_k54 => ((intro w hSw; (try dsimp only at hSw); go_simp; (try rw [if_neg (by omega)])); all_goals (with_reducible rfl))
          try simp only [Act.put, List.setIfInBounds_toArray, List.set_cons_zero, List.set_cons_succ]
          refine wpAnyH_take (i := 13) (oi := ?oi_k55) (v := ?v_k55) ?hi_k55 (by kernel_rfl) ?hf_k55 ?hr_k55 ?hQ_k55 (Or.inl ⟨?hw_k55, ?hy_k55⟩) (by assumption) ?rest_k55
          case hi_k55 => ((simp only [List.getElem?_toArray, List.getElem?_cons_succ, List.getElem?_cons_zero]); rfl)
          case hf_k55 => kernel_rfl
          case hr_k55 => kernel_rfl
          case hQ_k55 => exact fun _ _ _ h => h
          case hw_k55 => rfl
          case hy_k55 => ((intro w hSw; (try dsimp only at hSw); go_simp; (try rw [if_neg (by omega)])); all_goals (with_reducible rfl))
          try simp only [Act.put, List.setIfInBounds_toArray, List.set_cons_zero, List.set_cons_succ]
          generalize W5.drew = u0 at *
          refine wpAnyH_ready (rs := [14, 20]) (by kernel_rfl) (by simp) ?_
          refine AllReadyH.cons (o := ?o1_r82) ?hi_r82 (fun K hK => ?ra_r82) (AllReadyH.cons (o := ?o2_r82) ?hj_r82 (fun K hK => ?rb_r82) AllReadyH.nil)
          case hi_r82 => ((simp only [List.getElem?_toArray, List.getElem?_cons_succ, List.getElem?_cons_zero]); rfl)
          case hj_r82 => ((simp only [List.getElem?_toArray, List.getElem?_cons_succ, List.getElem?_cons_zero]); rfl)
          case ra_r82 =>
            obtain ⟨c9, W9, hrun9, hi9, hb9, -, -⟩ := conv_row X u0 (by omega)
            go_simp
            have hu9 := belStep hHeld hb9
            refine hK.out _ _ (by exact hu9) (fun hHeld => ?_)
            clear hK K hrun9 hu9
            try simp only [Act.put, List.setIfInBounds_toArray, List.set_cons_zero, List.set_cons_succ]
            clear hb9
            refine wpAnyH_ready (rs := [15, 20]) (by kernel_rfl) (by simp) ?_
            refine AllReadyH.cons (o := ?o1_r72) ?hi_r72 (fun K hK => ?ra_r72) (AllReadyH.cons (o := ?o2_r72) ?hj_r72 (fun K hK => ?rb_r72) AllReadyH.nil)
            case hi_r72 => ((simp only [List.getElem?_toArray, List.getElem?_cons_succ, List.getElem?_cons_zero]); rfl)
            case hj_r72 => ((simp only [List.getElem?_toArray, List.getElem?_cons_succ, List.getElem?_cons_zero]); rfl)
            case ra_r72 =>
              go_simp
              (go_at_call 16; (with_reducible refine (readC_no _ _ _ X _ _ _ (HEW.out _ hHeld) hi9 HX.out).mono ?_); rintro e wq ⟨rfl, hbq⟩)
              try go_simp
              have huq := belStep hHeld hbq
              refine hK.out _ _ (by exact huq) (fun hHeld => ?_)
              clear hK K hi9 huq
              try simp only [Act.put, List.setIfInBounds_toArray, List.set_cons_zero, List.set_cons_succ]
              clear hbq
              refine wpAnyH_take (i := 16) (oi := ?oi_k56) (v := ?v_k56) ?hi_k56 (by kernel_rfl) ?hf_k56 ?hr_k56 ?hQ_k56 (Or.inl ⟨?hw_k56, ?hy_k56⟩) (by assumption) ?rest_k56
              case hi_k56 => ((simp only [List.getElem?_toArray, List.getElem?_cons_succ, List.getElem?_cons_zero]); rfl)
              case hf_k56 => kernel_rfl
              case hr_k56 => kernel_rfl
              case hQ_k56 => exact fun _ _ _ h => h
              case hw_k56 => rfl
              case hy_k56 => ((intro w hSw; (try dsimp only at hSw); go_simp); all_goals (with_reducible rfl))
              try simp only [Act.put, List.setIfInBounds_toArray, List.set_cons_zero, List.set_cons_succ]
              refine wpAnyH_take (i := 17) (oi := ?oi_k57) (v := ?v_k57) ?hi_k57 (by kernel_rfl) ?hf_k57 ?hr_k57 ?hQ_k57 (Or.inl ⟨?hw_k57, ?hy_k57⟩) (by assumption) ?rest_k57
              case hi_k57 => ((simp only [List.getElem?_toArray, List.getElem?_cons_succ, List.getElem?_cons_zero]); rfl)
              case hf_k57 => kernel_rfl
              case hr_k57 => kernel_rfl
              case hQ_k57 => exact fun _ _ _ h => h
              case hw_k57 => rfl
              case hy_k57 => ((intro w hSw; (try dsimp only at hSw); go_simp); all_goals (with_reducible rfl))
              try simp only [Act.put, List.setIfInBounds_toArray, List.set_cons_zero, List.set_cons_succ]
              refine wpAnyH_take (i := 18) (oi := ?oi_k58) (v := ?v_k58) ?hi_k58 (by kernel_rfl) ?hf_k58 ?hr_k58 ?hQ_k58 (Or.inl ⟨?hw_k58, ?hy_k58⟩) (by assumption) ?rest_k58
              case hi_k58 => ((simp only [List.getElem?_toArray, List.getElem?_cons_succ, List.getElem?_cons_zero]); rfl)
              case hf_k58 => kernel_rfl
              case hr_k58 => kernel_rfl
              case hQ_k58 => exact fun _ _ _ h => h
              case hw_k58 => rfl
              case hy_k58 => ((intro w hSw; (try dsimp only at hSw); go_simp); all_goals (with_reducible rfl))
              try simp only [Act.put, List.setIfInBounds_toArray, List.set_cons_zero, List.set_cons_succ]
              refine wpAnyH_take (i := 19) (oi := ?oi_k59) (v := ?v_k59) ?hi_k59 (by kernel_rfl) ?hf_k59 ?hr_k59 ?hQ_k59 (Or.inl ⟨?hw_k59, ?hy_k59⟩) (by assumption) ?rest_k59
              case hi_k59 => ((simp only [List.getElem?_toArray, List.getElem?_cons_succ, List.getElem?_cons_zero]); rfl)
              case hf_k59 => kernel_rfl
              case hr_k59 => kernel_rfl
              case hQ_k59 => exact fun _ _ _ h => h
              case hw_k59 => rfl
              case hy_k59 => ((intro w hSw; (try dsimp only at hSw); go_simp); all_goals (with_reducible rfl))
              try simp only [Act.put, List.setIfInBounds_toArray, List.set_cons_zero, List.set_cons_succ]
              refine wpAnyH_ready (rs := [20]) (by kernel_rfl) (by simp) ?_
              refine AllReadyH.cons (o := ?o1_r63) ?hi_r63 (fun K hK => ?rest_r63) AllReadyH.nil
              case hi_r63 => ((simp only [List.getElem?_toArray, List.getElem?_cons_succ, List.getElem?_cons_zero]); rfl)
              have hg8 : W5.heap.size ≤ wq.heap.size := Below.size hHeld
              go_simp
              refine hK.out _ _ (by exact belAlloc hHeld _) (fun hHeld => ?_)
              clear hK K
              try simp only [Act.put, List.setIfInBounds_toArray, List.set_cons_zero, List.set_cons_succ]
              have hB8 : Blk (wq.alloc (.cells #[.int .i64 0, .int .i64 0, .int .i64 0, .int .i64 0, .int .i64 0, .int .i64 0, .slice none 0 0, .int .i64 0, .int .i64 0, .int .i64 0, .int .i64 0] 25)) wq.heap.size [.int .i64 0, .int .i64 0, .int .i64 0, .int .i64 0, .int .i64 0, .int .i64 0, .slice none 0 0, .int .i64 0, .int .i64 0, .int .i64 0, .int .i64 0] 25 := Blk.new wq [.int .i64 0, .int .i64 0, .int .i64 0, .int .i64 0, .int .i64 0, .int .i64 0, .slice none 0 0, .int .i64 0, .int .i64 0, .int .i64 0, .int .i64 0] 25
              have hal := belAlloc (Below.refl wq.heap.size wq) (.cells #[.int .i64 0, .int .i64 0, .int .i64 0, .int .i64 0, .int .i64 0, .int .i64 0, .slice none 0 0, .int .i64 0, .int .i64 0, .int .i64 0, .int .i64 0] 25)
              clear hal
              generalize wq.alloc (.cells #[.int .i64 0, .int .i64 0, .int .i64 0, .int .i64 0, .int .i64 0, .int .i64 0, .slice none 0 0, .int .i64 0, .int .i64 0, .int .i64 0, .int .i64 0] 25) = u15 at *
              generalize wq.heap.size = g8 at *
              have y0 := hB8.cell (j := 0) rfl
              have y1 := hB8.cell (j := 1) rfl
              have y2 := hB8.cell (j := 2) rfl
              have y3 := hB8.cell (j := 3) rfl
              have y4 := hB8.cell (j := 4) rfl
              have y5 := hB8.cell (j := 5) rfl
              have y6 := hB8.cell (j := 6) rfl
              have y7 := hB8.cell (j := 7) rfl
              have y8 := hB8.cell (j := 8) rfl
              have y9 := hB8.cell (j := 9) rfl
              have y10 := hB8.cell (j := 10) rfl
              have yf := hB8.frozen
              have hb16 := (belSet (belSet (belSet (belSet (belSet (belSet (belSet (belSet (belSet (belSet (belSet hHeld ⟨g8, 0, none⟩ (.int .i64 0) hg8) ⟨g8, 1, none⟩ (.int .i64 0) hg8) ⟨g8, 2, none⟩ (.int .i64 0) hg8) ⟨g8, 3, none⟩ (.int .i64 0) hg8) ⟨g8, 4, none⟩ (.int .i64 0) hg8) ⟨g8, 5, none⟩ (.int .i64 0) hg8) ⟨g8, 6, none⟩ (.slice none 0 0) hg8) ⟨g8, 7, none⟩ (.int .i64 0) hg8) ⟨g8, 8, none⟩ (.int .i64 0) hg8) ⟨g8, 9, none⟩ (.int .i64 0) hg8) ⟨g8, 10, none⟩ (.int .i64 0) hg8)
              have hR16 : Blk (((((((((((u15.setCell ⟨g8, 0, none⟩ (.int .i64 0)).setCell ⟨g8, 1, none⟩ (.int .i64 0)).setCell ⟨g8, 2, none⟩ (.int .i64 0)).setCell ⟨g8, 3, none⟩ (.int .i64 0)).setCell ⟨g8, 4, none⟩ (.int .i64 0)).setCell ⟨g8, 5, none⟩ (.int .i64 0)).setCell ⟨g8, 6, none⟩ (.slice none 0 0)).setCell ⟨g8, 7, none⟩ (.int .i64 0)).setCell ⟨g8, 8, none⟩ (.int .i64 0)).setCell ⟨g8, 9, none⟩ (.int .i64 0)).setCell ⟨g8, 10, none⟩ (.int .i64 0)) g8 [.int .i64 0, .int .i64 0, .int .i64 0, .int .i64 0, .int .i64 0, .int .i64 0, .slice none 0 0, .int .i64 0, .int .i64 0, .int .i64 0, .int .i64 0] 25 := (((((((((((hB8.set 0 (.int .i64 0)).set 1 (.int .i64 0)).set 2 (.int .i64 0)).set 3 (.int .i64 0)).set 4 (.int .i64 0)).set 5 (.int .i64 0)).set 6 (.slice none 0 0)).set 7 (.int .i64 0)).set 8 (.int .i64 0)).set 9 (.int .i64 0)).set 10 (.int .i64 0))
              refine wpAnyH_ready (rs := [21]) (by kernel_rfl) (by simp) ?_
              refine AllReadyH.cons (o := ?o1_k60) ?hi_k60 (fun K hK => ?rest_k60) AllReadyH.nil
              case hi_k60 => ((simp only [List.getElem?_toArray, List.getElem?_cons_succ, List.getElem?_cons_zero]); rfl)
              go_simp
              refine hK.out _ _ (by exact hb16) (fun hHeld => ?_)
              clear hK K
              try simp only [Act.put, List.setIfInBounds_toArray, List.set_cons_zero, List.set_cons_succ]
              refine wpAnyH_take (i := 22) (oi := ?oi_k61) (v := ?v_k61) ?hi_k61 (by kernel_rfl) ?hf_k61 ?hr_k61 ?hQ_k61 (Or.inl ⟨?hw_k61, ?hy_k61⟩) (by assumption) ?rest_k61
              case hi_k61 => ((simp only [List.getElem?_toArray, List.getElem?_cons_succ, List.getElem?_cons_zero]); rfl)
              case hf_k61 => kernel_rfl
              case hr_k61 => kernel_rfl
              case hQ_k61 => exact fun _ _ _ h => h
              case hw_k61 => rfl
              case hy_k61 => ((intro w hSw; (try dsimp only at hSw); go_simp); all_goals (with_reducible rfl))
              try simp only [Act.put, List.setIfInBounds_toArray, List.set_cons_zero, List.set_cons_succ]
              refine wpAnyH_take (i := 23) (oi := ?oi_k62) (v := ?v_k62) ?hi_k62 (by kernel_rfl) ?hf_k62 ?hr_k62 ?hQ_k62 (Or.inl ⟨?hw_k62, ?hy_k62⟩) (by assumption) ?rest_k62
              case hi_k62 => ((simp only [List.getElem?_toArray, List.getElem?_cons_succ, List.getElem?_cons_zero]); rfl)
              case hf_k62 => kernel_rfl
              case hr_k62 => kernel_rfl
              case hQ_k62 => exact fun _ _ _ h => h
              case hw_k62 => rfl
              case hy_k62 => ((intro w hSw; (try dsimp only at hSw); go_simp); all_goals (with_reducible rfl))
              try simp only [Act.put, List.setIfInBounds_toArray, List.set_cons_zero, List.set_cons_succ]
              refine wpAnyH_done (by kernel_rfl) ?_ _
              clear hHeld hB8 yf y0 y1 y2 y3 y4 y5 y6 y7 y8 y9 y10
              generalize ((((((((((u15.setCell ⟨g8, 0, none⟩ (.int .i64 0)).setCell ⟨g8, 1, none⟩ (.int .i64 0)).setCell ⟨g8, 2, none⟩ (.int .i64 0)).setCell ⟨g8, 3, none⟩ (.int .i64 0)).setCell ⟨g8, 4, none⟩ (.int .i64 0)).setCell ⟨g8, 5, none⟩ (.int .i64 0)).setCell ⟨g8, 6, none⟩ (.slice none 0 0)).setCell ⟨g8, 7, none⟩ (.int .i64 0)).setCell ⟨g8, 8, none⟩ (.int .i64 0)).setCell ⟨g8, 9, none⟩ (.int .i64 0)).setCell ⟨g8, 10, none⟩ (.int .i64 0) = W6 at *
              try clear hbel
              have hbel := hb16
              have HBxx := Lib.hid hR16
              clear hb16 hR16
              clear hwb hb0 hb9 hp0 hp1 hbt wi3 hws h10s
              have hne : (((m : Int) + 1) == ((m : Int) + 1)) = true := by simp
              go_upto_region 20 with fail
              clear HBxx
              have hw := Below.refl W5.heap.size W5
              have dd0 : (W6.alloc (.cells #[.int .i64 0, .int .i64 c.k1, .int .i64 c.k2, .int .i64 c.a0, .int .i64 0, .int .i64 c.a2, .slice ta c.T.length tc, .int .i64 c.per, .int .i64 c.ret, .int .i64 c.age, .int .i64 c.dead] 25)).cell? ⟨W6.heap.size, 0, none⟩ = some (.int .i64 0) := by first | (simp; done) | (rw [World.cell?_alloc_at _ _ _ _ (by simp)]; rfl) | (rw [World.cell?_alloc_past _ _ _ (by simp <;> omega), World.cell?_alloc_at _ _ _ _ (by simp)]; rfl) | (rw [World.cell?_alloc_past _ _ _ (by simp <;> omega), World.cell?_alloc_past _ _ _ (by simp <;> omega), World.cell?_alloc_at _ _ _ _ (by simp)]; rfl)
              have dd1 : (W6.alloc (.cells #[.int .i64 0, .int .i64 c.k1, .int .i64 c.k2, .int .i64 c.a0, .int .i64 0, .int .i64 c.a2, .slice ta c.T.length tc, .int .i64 c.per, .int .i64 c.ret, .int .i64 c.age, .int .i64 c.dead] 25)).cell? ⟨W6.heap.size, 1, none⟩ = some (.int .i64 c.k1) := by first | (simp; done) | (rw [World.cell?_alloc_at _ _ _ _ (by simp)]; rfl) | (rw [World.cell?_alloc_past _ _ _ (by simp <;> omega), World.cell?_alloc_at _ _ _ _ (by simp)]; rfl) | (rw [World.cell?_alloc_past _ _ _ (by simp <;> omega), World.cell?_alloc_past _ _ _ (by simp <;> omega), World.cell?_alloc_at _ _ _ _ (by simp)]; rfl)
              have dd2 : (W6.alloc (.cells #[.int .i64 0, .int .i64 c.k1, .int .i64 c.k2, .int .i64 c.a0, .int .i64 0, .int .i64 c.a2, .slice ta c.T.length tc, .int .i64 c.per, .int .i64 c.ret, .int .i64 c.age, .int .i64 c.dead] 25)).cell? ⟨W6.heap.size, 2, none⟩ = some (.int .i64 c.k2) := by first | (simp; done) | (rw [World.cell?_alloc_at _ _ _ _ (by simp)]; rfl) | (rw [World.cell?_alloc_past _ _ _ (by simp <;> omega), World.cell?_alloc_at _ _ _ _ (by simp)]; rfl) | (rw [World.cell?_alloc_past _ _ _ (by simp <;> omega), World.cell?_alloc_past _ _ _ (by simp <;> omega), World.cell?_alloc_at _ _ _ _ (by simp)]; rfl)
              have dd3 : (W6.alloc (.cells #[.int .i64 0, .int .i64 c.k1, .int .i64 c.k2, .int .i64 c.a0, .int .i64 0, .int .i64 c.a2, .slice ta c.T.length tc, .int .i64 c.per, .int .i64 c.ret, .int .i64 c.age, .int .i64 c.dead] 25)).cell? ⟨W6.heap.size, 3, none⟩ = some (.int .i64 c.a0) := by first | (simp; done) | (rw [World.cell?_alloc_at _ _ _ _ (by simp)]; rfl) | (rw [World.cell?_alloc_past _ _ _ (by simp <;> omega), World.cell?_alloc_at _ _ _ _ (by simp)]; rfl) | (rw [World.cell?_alloc_past _ _ _ (by simp <;> omega), World.cell?_alloc_past _ _ _ (by simp <;> omega), World.cell?_alloc_at _ _ _ _ (by simp)]; rfl)
              have dd4 : (W6.alloc (.cells #[.int .i64 0, .int .i64 c.k1, .int .i64 c.k2, .int .i64 c.a0, .int .i64 0, .int .i64 c.a2, .slice ta c.T.length tc, .int .i64 c.per, .int .i64 c.ret, .int .i64 c.age, .int .i64 c.dead] 25)).cell? ⟨W6.heap.size, 4, none⟩ = some (.int .i64 0) := by first | (simp; done) | (rw [World.cell?_alloc_at _ _ _ _ (by simp)]; rfl) | (rw [World.cell?_alloc_past _ _ _ (by simp <;> omega), World.cell?_alloc_at _ _ _ _ (by simp)]; rfl) | (rw [World.cell?_alloc_past _ _ _ (by simp <;> omega), World.cell?_alloc_past _ _ _ (by simp <;> omega), World.cell?_alloc_at _ _ _ _ (by simp)]; rfl)
              have dd5 : (W6.alloc (.cells #[.int .i64 0, .int .i64 c.k1, .int .i64 c.k2, .int .i64 c.a0, .int .i64 0, .int .i64 c.a2, .slice ta c.T.length tc, .int .i64 c.per, .int .i64 c.ret, .int .i64 c.age, .int .i64 c.dead] 25)).cell? ⟨W6.heap.size, 5, none⟩ = some (.int .i64 c.a2) := by first | (simp; done) | (rw [World.cell?_alloc_at _ _ _ _ (by simp)]; rfl) | (rw [World.cell?_alloc_past _ _ _ (by simp <;> omega), World.cell?_alloc_at _ _ _ _ (by simp)]; rfl) | (rw [World.cell?_alloc_past _ _ _ (by simp <;> omega), World.cell?_alloc_past _ _ _ (by simp <;> omega), World.cell?_alloc_at _ _ _ _ (by simp)]; rfl)
              have dd6 : (W6.alloc (.cells #[.int .i64 0, .int .i64 c.k1, .int .i64 c.k2, .int .i64 c.a0, .int .i64 0, .int .i64 c.a2, .slice ta c.T.length tc, .int .i64 c.per, .int .i64 c.ret, .int .i64 c.age, .int .i64 c.dead] 25)).cell? ⟨W6.heap.size, 6, none⟩ = some (.slice ta c.T.length tc) := by first | (simp; done) | (rw [World.cell?_alloc_at _ _ _ _ (by simp)]; rfl) | (rw [World.cell?_alloc_past _ _ _ (by simp <;> omega), World.cell?_alloc_at _ _ _ _ (by simp)]; rfl) | (rw [World.cell?_alloc_past _ _ _ (by simp <;> omega), World.cell?_alloc_past _ _ _ (by simp <;> omega), World.cell?_alloc_at _ _ _ _ (by simp)]; rfl)
              have dd7 : (W6.alloc (.cells #[.int .i64 0, .int .i64 c.k1, .int .i64 c.k2, .int .i64 c.a0, .int .i64 0, .int .i64 c.a2, .slice ta c.T.length tc, .int .i64 c.per, .int .i64 c.ret, .int .i64 c.age, .int .i64 c.dead] 25)).cell? ⟨W6.heap.size, 7, none⟩ = some (.int .i64 c.per) := by first | (simp; done) | (rw [World.cell?_alloc_at _ _ _ _ (by simp)]; rfl) | (rw [World.cell?_alloc_past _ _ _ (by simp <;> omega), World.cell?_alloc_at _ _ _ _ (by simp)]; rfl) | (rw [World.cell?_alloc_past _ _ _ (by simp <;> omega), World.cell?_alloc_past _ _ _ (by simp <;> omega), World.cell?_alloc_at _ _ _ _ (by simp)]; rfl)
              have dd8 : (W6.alloc (.cells #[.int .i64 0, .int .i64 c.k1, .int .i64 c.k2, .int .i64 c.a0, .int .i64 0, .int .i64 c.a2, .slice ta c.T.length tc, .int .i64 c.per, .int .i64 c.ret, .int .i64 c.age, .int .i64 c.dead] 25)).cell? ⟨W6.heap.size, 8, none⟩ = some (.int .i64 c.ret) := by first | (simp; done) | (rw [World.cell?_alloc_at _ _ _ _ (by simp)]; rfl) | (rw [World.cell?_alloc_past _ _ _ (by simp <;> omega), World.cell?_alloc_at _ _ _ _ (by simp)]; rfl) | (rw [World.cell?_alloc_past _ _ _ (by simp <;> omega), World.cell?_alloc_past _ _ _ (by simp <;> omega), World.cell?_alloc_at _ _ _ _ (by simp)]; rfl)
              have dd9 : (W6.alloc (.cells #[.int .i64 0, .int .i64 c.k1, .int .i64 c.k2, .int .i64 c.a0, .int .i64 0, .int .i64 c.a2, .slice ta c.T.length tc, .int .i64 c.per, .int .i64 c.ret, .int .i64 c.age, .int .i64 c.dead] 25)).cell? ⟨W6.heap.size, 9, none⟩ = some (.int .i64 c.age) := by first | (simp; done) | (rw [World.cell?_alloc_at _ _ _ _ (by simp)]; rfl) | (rw [World.cell?_alloc_past _ _ _ (by simp <;> omega), World.cell?_alloc_at _ _ _ _ (by simp)]; rfl) | (rw [World.cell?_alloc_past _ _ _ (by simp <;> omega), World.cell?_alloc_past _ _ _ (by simp <;> omega), World.cell?_alloc_at _ _ _ _ (by simp)]; rfl)
              have dd10 : (W6.alloc (.cells #[.int .i64 0, .int .i64 c.k1, .int .i64 c.k2, .int .i64 c.a0, .int .i64 0, .int .i64 c.a2, .slice ta c.T.length tc, .int .i64 c.per, .int .i64 c.ret, .int .i64 c.age, .int .i64 c.dead] 25)).cell? ⟨W6.heap.size, 10, none⟩ = some (.int .i64 c.dead) := by first | (simp; done) | (rw [World.cell?_alloc_at _ _ _ _ (by simp)]; rfl) | (rw [World.cell?_alloc_past _ _ _ (by simp <;> omega), World.cell?_alloc_at _ _ _ _ (by simp)]; rfl) | (rw [World.cell?_alloc_past _ _ _ (by simp <;> omega), World.cell?_alloc_past _ _ _ (by simp <;> omega), World.cell?_alloc_at _ _ _ _ (by simp)]; rfl)
              have hb2 := (by repeat (first | exact hbel | refine belAlloc ?_ _ | refine belDrew ?_ | refine belSet ?_ _ _ (by simp)) : Below W5.heap.size W5 (W6.alloc (.cells #[.int .i64 0, .int .i64 c.k1, .int .i64 c.k2, .int .i64 c.a0, .int .i64 0, .int .i64 c.a2, .slice ta c.T.length tc, .int .i64 c.per, .int .i64 c.ret, .int .i64 c.age, .int .i64 c.dead] 25)))
              replace hw := belStep hw hb2
              clear hb2 hbel
              generalize W6.alloc (.cells #[.int .i64 0, .int .i64 c.k1, .int .i64 c.k2, .int .i64 c.a0, .int .i64 0, .int .i64 c.a2, .slice ta c.T.length tc, .int .i64 c.per, .int .i64 c.ret, .int .i64 c.age, .int .i64 c.dead] 25) = W7 at *
              replace dd0 := keep dd0
              replace dd1 := keep dd1
              replace dd2 := keep dd2
              replace dd3 := keep dd3
              replace dd4 := keep dd4
              replace dd5 := keep dd5
              replace dd6 := keep dd6
              replace dd7 := keep dd7
              replace dd8 := keep dd8
              replace dd9 := keep dd9
              replace dd10 := keep dd10
              generalize W6.heap.size = d7 at *
              have hbel : Below W7.heap.size W7 W7 := Below.refl _ _
              clear W6
              have HW7 := Lib.hid (belStep HW5.out hw)
              clear hw
              go_upto_region 21 with (first | (go_at_call 15; (with_reducible refine (CD.out _ (belStep HW7.out hbel)).mono ?_); rintro e wp ⟨rfl, hbp⟩; obtain ⟨jc, W8, hrun, hji, hjb, -, -⟩ := conv_row J2 wp (by have := HD2.out; omega); have hb8 := belStep (belStep hbel hbp) hjb; have HB8 := Lib.hid hb8; have HJI := Lib.hid hji; have HEE := Lib.hid (HE1.out.later (belStep HW7.out hb8)); clear hji hjb hb8 hbp hbel) | (go_at_call 16; (with_reducible refine (readC_no _ _ _ J2 _ _ W8 HEE.out HJI.out HD1.out).mono ?_); rintro e wm ⟨rfl, hbm⟩; have hbel := belStep HB8.out hbm; clear hbm))
              clear hrun
              go_wp2
              go_ret
              exact ⟨rfl, belStep HW.out (belStep HW7.out (belAlloc hbel _))⟩
            case rb_r72 =>
              have hg8 : W5.heap.size ≤ W9.heap.size := Below.size hHeld
              go_simp
              refine hK.out _ _ (by exact belAlloc hHeld _) (fun hHeld => ?_)
              clear hK K
              try simp only [Act.put, List.setIfInBounds_toArray, List.set_cons_zero, List.set_cons_succ]
              have hB8 : Blk (W9.alloc (.cells #[.int .i64 0, .int .i64 0, .int .i64 0, .int .i64 0, .int .i64 0, .int .i64 0, .slice none 0 0, .int .i64 0, .int .i64 0, .int .i64 0, .int .i64 0] 25)) W9.heap.size [.int .i64 0, .int .i64 0, .int .i64 0, .int .i64 0, .int .i64 0, .int .i64 0, .slice none 0 0, .int .i64 0, .int .i64 0, .int .i64 0, .int .i64 0] 25 := Blk.new W9 [.int .i64 0, .int .i64 0, .int .i64 0, .int .i64 0, .int .i64 0, .int .i64 0, .slice none 0 0, .int .i64 0, .int .i64 0, .int .i64 0, .int .i64 0] 25
              have hal := belAlloc (Below.refl W9.heap.size W9) (.cells #[.int .i64 0, .int .i64 0, .int .i64 0, .int .i64 0, .int .i64 0, .int .i64 0, .slice none 0 0, .int .i64 0, .int .i64 0, .int .i64 0, .int .i64 0] 25)
              replace hi9 := Ints.later hi9 hal
              clear hal
              generalize W9.alloc (.cells #[.int .i64 0, .int .i64 0, .int .i64 0, .int .i64 0, .int .i64 0, .int .i64 0, .slice none 0 0, .int .i64 0, .int .i64 0, .int .i64 0, .int .i64 0] 25) = u15 at *
              generalize W9.heap.size = g8 at *
              refine wpAnyH_ready (rs := [15]) (by kernel_rfl) (by simp) ?_
              refine AllReadyH.cons (o := ?o1_r71) ?hi_r71 (fun K hK => ?rest_r71) AllReadyH.nil
              case hi_r71 => ((simp only [List.getElem?_toArray, List.getElem?_cons_succ, List.getElem?_cons_zero]); rfl)
              go_simp
              (go_at_call 16; (with_reducible refine (readC_no _ _ _ X _ _ _ (HEW.out _ hHeld) hi9 HX.out).mono ?_); rintro e wq ⟨rfl, hbq⟩)
              try go_simp
              have huq := belStep hHeld hbq
              refine hK.out _ _ (by exact huq) (fun hHeld => ?_)
              clear hK K hi9 huq
              try simp only [Act.put, List.setIfInBounds_toArray, List.set_cons_zero, List.set_cons_succ]
              replace hB8 := hB8.later hbq
              clear hbq
              refine wpAnyH_take (i := 16) (oi := ?oi_k64) (v := ?v_k64) ?hi_k64 (by kernel_rfl) ?hf_k64 ?hr_k64 ?hQ_k64 (Or.inl ⟨?hw_k64, ?hy_k64⟩) (by assumption) ?rest_k64
              case hi_k64 => ((simp only [List.getElem?_toArray, List.getElem?_cons_succ, List.getElem?_cons_zero]); rfl)
              case hf_k64 => kernel_rfl
              case hr_k64 => kernel_rfl
              case hQ_k64 => exact fun _ _ _ h => h
              case hw_k64 => rfl
              case hy_k64 => ((intro w hSw; (try dsimp only at hSw); go_simp); all_goals (with_reducible rfl))
              try simp only [Act.put, List.setIfInBounds_toArray, List.set_cons_zero, List.set_cons_succ]
              refine wpAnyH_take (i := 17) (oi := ?oi_k65) (v := ?v_k65) ?hi_k65 (by kernel_rfl) ?hf_k65 ?hr_k65 ?hQ_k65 (Or.inl ⟨?hw_k65, ?hy_k65⟩) (by assumption) ?rest_k65
              case hi_k65 => ((simp only [List.getElem?_toArray, List.getElem?_cons_succ, List.getElem?_cons_zero]); rfl)
              case hf_k65 => kernel_rfl
              case hr_k65 => kernel_rfl
              case hQ_k65 => exact fun _ _ _ h => h
              case hw_k65 => rfl
              case hy_k65 => ((intro w hSw; (try dsimp only at hSw); go_simp); all_goals (with_reducible rfl))
              try simp only [Act.put, List.setIfInBounds_toArray, List.set_cons_zero, List.set_cons_succ]
              refine wpAnyH_take (i := 18) (oi := ?oi_k66) (v := ?v_k66) ?hi_k66 (by kernel_rfl) ?hf_k66 ?hr_k66 ?hQ_k66 (Or.inl ⟨?hw_k66, ?hy_k66⟩) (by assumption) ?rest_k66
              case hi_k66 => ((simp only [List.getElem?_toArray, List.getElem?_cons_succ, List.getElem?_cons_zero]); rfl)
              case hf_k66 => kernel_rfl
              case hr_k66 => kernel_rfl
              case hQ_k66 => exact fun _ _ _ h => h
              case hw_k66 => rfl
              case hy_k66 => ((intro w hSw; (try dsimp only at hSw); go_simp); all_goals (with_reducible rfl))
              try simp only [Act.put, List.setIfInBounds_toArray, List.set_cons_zero, List.set_cons_succ]
              refine wpAnyH_take (i := 19) (oi := ?oi_k67) (v := ?v_k67) ?hi_k67 (by kernel_rfl) ?hf_k67 ?hr_k67 ?hQ_k67 (Or.inl ⟨?hw_k67, ?hy_k67⟩) (by assumption) ?rest_k67
              case hi_k67 => ((simp only [List.getElem?_toArray, List.getElem?_cons_succ, List.getElem?_cons_zero]); rfl)
              case hf_k67 => kernel_rfl
              case hr_k67 => kernel_rfl
              case hQ_k67 => exact fun _ _ _ h => h
              case hw_k67 => rfl
              case hy_k67 => ((intro w hSw; (try dsimp only at hSw); go_simp); all_goals (with_reducible rfl))
              try simp only [Act.put, List.setIfInBounds_toArray, List.set_cons_zero, List.set_cons_succ]
              have y0 := hB8.cell (j := 0) rfl
              have y1 := hB8.cell (j := 1) rfl
              have y2 := hB8.cell (j := 2) rfl
              have y3 := hB8.cell (j := 3) rfl
              have y4 := hB8.cell (j := 4) rfl
              have y5 := hB8.cell (j := 5) rfl
              have y6 := hB8.cell (j := 6) rfl
              have y7 := hB8.cell (j := 7) rfl
              have y8 := hB8.cell (j := 8) rfl
              have y9 := hB8.cell (j := 9) rfl
              have y10 := hB8.cell (j := 10) rfl
              have yf := hB8.frozen
              have hb16 := (belSet (belSet (belSet (belSet (belSet (belSet (belSet (belSet (belSet (belSet (belSet hHeld ⟨g8, 0, none⟩ (.int .i64 0) hg8) ⟨g8, 1, none⟩ (.int .i64 0) hg8) ⟨g8, 2, none⟩ (.int .i64 0) hg8) ⟨g8, 3, none⟩ (.int .i64 0) hg8) ⟨g8, 4, none⟩ (.int .i64 0) hg8) ⟨g8, 5, none⟩ (.int .i64 0) hg8) ⟨g8, 6, none⟩ (.slice none 0 0) hg8) ⟨g8, 7, none⟩ (.int .i64 0) hg8) ⟨g8, 8, none⟩ (.int .i64 0) hg8) ⟨g8, 9, none⟩ (.int .i64 0) hg8) ⟨g8, 10, none⟩ (.int .i64 0) hg8)
              have hR16 : Blk (((((((((((wq.setCell ⟨g8, 0, none⟩ (.int .i64 0)).setCell ⟨g8, 1, none⟩ (.int .i64 0)).setCell ⟨g8, 2, none⟩ (.int .i64 0)).setCell ⟨g8, 3, none⟩ (.int .i64 0)).setCell ⟨g8, 4, none⟩ (.int .i64 0)).setCell ⟨g8, 5, none⟩ (.int .i64 0)).setCell ⟨g8, 6, none⟩ (.slice none 0 0)).setCell ⟨g8, 7, none⟩ (.int .i64 0)).setCell ⟨g8, 8, none⟩ (.int .i64 0)).setCell ⟨g8, 9, none⟩ (.int .i64 0)).setCell ⟨g8, 10, none⟩ (.int .i64 0)) g8 [.int .i64 0, .int .i64 0, .int .i64 0, .int .i64 0, .int .i64 0, .int .i64 0, .slice none 0 0, .int .i64 0, .int .i64 0, .int .i64 0, .int .i64 0] 25 := (((((((((((hB8.set 0 (.int .i64 0)).set 1 (.int .i64 0)).set 2 (.int .i64 0)).set 3 (.int .i64 0)).set 4 (.int .i64 0)).set 5 (.int .i64 0)).set 6 (.slice none 0 0)).set 7 (.int .i64 0)).set 8 (.int .i64 0)).set 9 (.int .i64 0)).set 10 (.int .i64 0))
              refine wpAnyH_ready (rs := [21]) (by kernel_rfl) (by simp) ?_
              refine AllReadyH.cons (o := ?o1_k68) ?hi_k68 (fun K hK => ?rest_k68) AllReadyH.nil
              case hi_k68 => ((simp only [List.getElem?_toArray, List.getElem?_cons_succ, List.getElem?_cons_zero]); rfl)
              go_simp
              refine hK.out _ _ (by exact hb16) (fun hHeld => ?_)
              clear hK K
              try simp only [Act.put, List.setIfInBounds_toArray, List.set_cons_zero, List.set_cons_succ]
              refine wpAnyH_take (i := 22) (oi := ?oi_k69) (v := ?v_k69) ?hi_k69 (by kernel_rfl) ?hf_k69 ?hr_k69 ?hQ_k69 (Or.inl ⟨?hw_k69, ?hy_k69⟩) (by assumption) ?rest_k69
              case hi_k69 => ((simp only [List.getElem?_toArray, List.getElem?_cons_succ, List.getElem?_cons_zero]); rfl)
              case hf_k69 => kernel_rfl
              case hr_k69 => kernel_rfl
              case hQ_k69 => exact fun _ _ _ h => h
              case hw_k69 => rfl
              case hy_k69 => ((intro w hSw; (try dsimp only at hSw); go_simp); all_goals (with_reducible rfl))
              try simp only [Act.put, List.setIfInBounds_toArray, List.set_cons_zero, List.set_cons_succ]
              refine wpAnyH_take (i := 23) (oi := ?oi_k70) (v := ?v_k70) ?hi_k70 (by kernel_rfl) ?hf_k70 ?hr_k70 ?hQ_k70 (Or.inl ⟨?hw_k70, ?hy_k70⟩) (by assumption) ?rest_k70
              case hi_k70 => ((simp only [List.getElem?_toArray, List.getElem?_cons_succ, List.getElem?_cons_zero]); rfl)
              case hf_k70 => kernel_rfl
              case hr_k70 => kernel_rfl
              case hQ_k70 => exact fun _ _ _ h => h
              case hw_k70 => rfl
              case hy_k70 => ((intro w hSw; (try dsimp only at hSw); go_simp); all_goals (with_reducible rfl))
              try simp only [Act.put, List.setIfInBounds_toArray, List.set_cons_zero, List.set_cons_succ]
              refine wpAnyH_done (by kernel_rfl) ?_ _
              clear hHeld hB8 yf y0 y1 y2 y3 y4 y5 y6 y7 y8 y9 y10
              generalize ((((((((((wq.setCell ⟨g8, 0, none⟩ (.int .i64 0)).setCell ⟨g8, 1, none⟩ (.int .i64 0)).setCell ⟨g8, 2, none⟩ (.int .i64 0)).setCell ⟨g8, 3, none⟩ (.int .i64 0)).setCell ⟨g8, 4, none⟩ (.int .i64 0)).setCell ⟨g8, 5, none⟩ (.int .i64 0)).setCell ⟨g8, 6, none⟩ (.slice none 0 0)).setCell ⟨g8, 7, none⟩ (.int .i64 0)).setCell ⟨g8, 8, none⟩ (.int .i64 0)).setCell ⟨g8, 9, none⟩ (.int .i64 0)).setCell ⟨g8, 10, none⟩ (.int .i64 0) = W6 at *
              try clear hbel
              have hbel := hb16
              have HBxx := Lib.hid hR16
              clear hb16 hR16
              clear hwb hb0 hb9 hp0 hp1 hbt wi3 hws h10s
              have hne : (((m : Int) + 1) == ((m : Int) + 1)) = true := by simp
              go_upto_region 20 with fail
              clear HBxx
              have hw := Below.refl W5.heap.size W5
              have dd0 : (W6.alloc (.cells #[.int .i64 0, .int .i64 c.k1, .int .i64 c.k2, .int .i64 c.a0, .int .i64 0, .int .i64 c.a2, .slice ta c.T.length tc, .int .i64 c.per, .int .i64 c.ret, .int .i64 c.age, .int .i64 c.dead] 25)).cell? ⟨W6.heap.size, 0, none⟩ = some (.int .i64 0) := by first | (simp; done) | (rw [World.cell?_alloc_at _ _ _ _ (by simp)]; rfl) | (rw [World.cell?_alloc_past _ _ _ (by simp <;> omega), World.cell?_alloc_at _ _ _ _ (by simp)]; rfl) | (rw [World.cell?_alloc_past _ _ _ (by simp <;> omega), World.cell?_alloc_past _ _ _ (by simp <;> omega), World.cell?_alloc_at _ _ _ _ (by simp)]; rfl)
              have dd1 : (W6.alloc (.cells #[.int .i64 0, .int .i64 c.k1, .int .i64 c.k2, .int .i64 c.a0, .int .i64 0, .int .i64 c.a2, .slice ta c.T.length tc, .int .i64 c.per, .int .i64 c.ret, .int .i64 c.age, .int .i64 c.dead] 25)).cell? ⟨W6.heap.size, 1, none⟩ = some (.int .i64 c.k1) := by first | (simp; done) | (rw [World.cell?_alloc_at _ _ _ _ (by simp)]; rfl) | (rw [World.cell?_alloc_past _ _ _ (by simp <;> omega), World.cell?_alloc_at _ _ _ _ (by simp)]; rfl) | (rw [World.cell?_alloc_past _ _ _ (by simp <;> omega), World.cell?_alloc_past _ _ _ (by simp <;> omega), World.cell?_alloc_at _ _ _ _ (by simp)]; rfl)
              have dd2 : (W6.alloc (.cells #[.int .i64 0, .int .i64 c.k1, .int .i64 c.k2, .int .i64 c.a0, .int .i64 0, .int .i64 c.a2, .slice ta c.T.length tc, .int .i64 c.per, .int .i64 c.ret, .int .i64 c.age, .int .i64 c.dead] 25)).cell? ⟨W6.heap.size, 2, none⟩ = some (.int .i64 c.k2) := by first | (simp; done) | (rw [World.cell?_alloc_at _ _ _ _ (by simp)]; rfl) | (rw [World.cell?_alloc_past _ _ _ (by simp <;> omega), World.cell?_alloc_at _ _ _ _ (by simp)]; rfl) | (rw [World.cell?_alloc_past _ _ _ (by simp <;> omega), World.cell?_alloc_past _ _ _ (by simp <;> omega), World.cell?_alloc_at _ _ _ _ (by simp)]; rfl)
              have dd3 : (W6.alloc (.cells #[.int .i64 0, .int .i64 c.k1, .int .i64 c.k2, .int .i64 c.a0, .int .i64 0, .int .i64 c.a2, .slice ta c.T.length tc, .int .i64 c.per, .int .i64 c.ret, .int .i64 c.age, .int .i64 c.dead] 25)).cell? ⟨W6.heap.size, 3, none⟩ = some (.int .i64 c.a0) := by first | (simp; done) | (rw [World.cell?_alloc_at _ _ _ _ (by simp)]; rfl) | (rw [World.cell?_alloc_past _ _ _ (by simp <;> omega), World.cell?_alloc_at _ _ _ _ (by simp)]; rfl) | (rw [World.cell?_alloc_past _ _ _ (by simp <;> omega), World.cell?_alloc_past _ _ _ (by simp <;> omega), World.cell?_alloc_at _ _ _ _ (by simp)]; rfl)
              have dd4 : (W6.alloc (.cells #[.int .i64 0, .int .i64 c.k1, .int .i64 c.k2, .int .i64 c.a0, .int .i64 0, .int .i64 c.a2, .slice ta c.T.length tc, .int .i64 c.per, .int .i64 c.ret, .int .i64 c.age, .int .i64 c.dead] 25)).cell? ⟨W6.heap.size, 4, none⟩ = some (.int .i64 0) := by first | (simp; done) | (rw [World.cell?_alloc_at _ _ _ _ (by simp)]; rfl) | (rw [World.cell?_alloc_past _ _ _ (by simp <;> omega), World.cell?_alloc_at _ _ _ _ (by simp)]; rfl) | (rw [World.cell?_alloc_past _ _ _ (by simp <;> omega), World.cell?_alloc_past _ _ _ (by simp <;> omega), World.cell?_alloc_at _ _ _ _ (by simp)]; rfl)
              have dd5 : (W6.alloc (.cells #[.int .i64 0, .int .i64 c.k1, .int .i64 c.k2, .int .i64 c.a0, .int .i64 0, .int .i64 c.a2, .slice ta c.T.length tc, .int .i64 c.per, .int .i64 c.ret, .int .i64 c.age, .int .i64 c.dead] 25)).cell? ⟨W6.heap.size, 5, none⟩ = some (.int .i64 c.a2) := by first | (simp; done) | (rw [World.cell?_alloc_at _ _ _ _ (by simp)]; rfl) | (rw [World.cell?_alloc_past _ _ _ (by simp <;> omega), World.cell?_alloc_at _ _ _ _ (by simp)]; rfl) | (rw [World.cell?_alloc_past _ _ _ (by simp <;> omega), World.cell?_alloc_past _ _ _ (by simp <;> omega), World.cell?_alloc_at _ _ _ _ (by simp)]; rfl)
              have dd6 : (W6.alloc (.cells #[.int .i64 0, .int .i64 c.k1, .int .i64 c.k2, .int .i64 c.a0, .int .i64 0, .int .i64 c.a2, .slice ta c.T.length tc, .int .i64 c.per, .int .i64 c.ret, .int .i64 c.age, .int .i64 c.dead] 25)).cell? ⟨W6.heap.size, 6, none⟩ = some (.slice ta c.T.length tc) := by first | (simp; done) | (rw [World.cell?_alloc_at _ _ _ _ (by simp)]; rfl) | (rw [World.cell?_alloc_past _ _ _ (by simp <;> omega), World.cell?_alloc_at _ _ _ _ (by simp)]; rfl) | (rw [World.cell?_alloc_past _ _ _ (by simp <;> omega), World.cell?_alloc_past _ _ _ (by simp <;> omega), World.cell?_alloc_at _ _ _ _ (by simp)]; rfl)
              have dd7 : (W6.alloc (.cells #[.int .i64 0, .int .i64 c.k1, .int .i64 c.k2, .int .i64 c.a0, .int .i64 0, .int .i64 c.a2, .slice ta c.T.length tc, .int .i64 c.per, .int .i64 c.ret, .int .i64 c.age, .int .i64 c.dead] 25)).cell? ⟨W6.heap.size, 7, none⟩ = some (.int .i64 c.per) := by first | (simp; done) | (rw [World.cell?_alloc_at _ _ _ _ (by simp)]; rfl) | (rw [World.cell?_alloc_past _ _ _ (by simp <;> omega), World.cell?_alloc_at _ _ _ _ (by simp)]; rfl) | (rw [World.cell?_alloc_past _ _ _ (by simp <;> omega), World.cell?_alloc_past _ _ _ (by simp <;> omega), World.cell?_alloc_at _ _ _ _ (by simp)]; rfl)
              have dd8 : (W6.alloc (.cells #[.int .i64 0, .int .i64 c.k1, .int .i64 c.k2, .int .i64 c.a0, .int .i64 0, .int .i64 c.a2, .slice ta c.T.length tc, .int .i64 c.per, .int .i64 c.ret, .int .i64 c.age, .int .i64 c.dead] 25)).cell? ⟨W6.heap.size, 8, none⟩ = some (.int .i64 c.ret) := by first | (simp; done) | (rw [World.cell?_alloc_at _ _ _ _ (by simp)]; rfl) | (rw [World.cell?_alloc_past _ _ _ (by simp <;> omega), World.cell?_alloc_at _ _ _ _ (by simp)]; rfl) | (rw [World.cell?_alloc_past _ _ _ (by simp <;> omega), World.cell?_alloc_past _ _ _ (by simp <;> omega), World.cell?_alloc_at _ _ _ _ (by simp)]; rfl)
              have dd9 : (W6.alloc (.cells #[.int .i64 0, .int .i64 c.k1, .int .i64 c.k2, .int .i64 c.a0, .int .i64 0, .int .i64 c.a2, .slice ta c.T.length tc, .int .i64 c.per, .int .i64 c.ret, .int .i64 c.age, .int .i64 c.dead] 25)).cell? ⟨W6.heap.size, 9, none⟩ = some (.int .i64 c.age) := by first | (simp; done) | (rw [World.cell?_alloc_at _ _ _ _ (by simp)]; rfl) | (rw [World.cell?_alloc_past _ _ _ (by simp <;> omega), World.cell?_alloc_at _ _ _ _ (by simp)]; rfl) | (rw [World.cell?_alloc_past _ _ _ (by simp <;> omega), World.cell?_alloc_past _ _ _ (by simp <;> omega), World.cell?_alloc_at _ _ _ _ (by simp)]; rfl)
              have dd10 : (W6.alloc (.cells #[.int .i64 0, .int .i64 c.k1, .int .i64 c.k2, .int .i64 c.a0, .int .i64 0, .int .i64 c.a2, .slice ta c.T.length tc, .int .i64 c.per, .int .i64 c.ret, .int .i64 c.age, .int .i64 c.dead] 25)).cell? ⟨W6.heap.size, 10, none⟩ = some (.int .i64 c.dead) := by first | (simp; done) | (rw [World.cell?_alloc_at _ _ _ _ (by simp)]; rfl) | (rw [World.cell?_alloc_past _ _ _ (by simp <;> omega), World.cell?_alloc_at _ _ _ _ (by simp)]; rfl) | (rw [World.cell?_alloc_past _ _ _ (by simp <;> omega), World.cell?_alloc_past _ _ _ (by simp <;> omega), World.cell?_alloc_at _ _ _ _ (by simp)]; rfl)
              have hb2 := (by repeat (first | exact hbel | refine belAlloc ?_ _ | refine belDrew ?_ | refine belSet ?_ _ _ (by simp)) : Below W5.heap.size W5 (W6.alloc (.cells #[.int .i64 0, .int .i64 c.k1, .int .i64 c.k2, .int .i64 c.a0, .int .i64 0, .int .i64 c.a2, .slice ta c.T.length tc, .int .i64 c.per, .int .i64 c.ret, .int .i64 c.age, .int .i64 c.dead] 25)))
              replace hw := belStep hw hb2
              clear hb2 hbel
              generalize W6.alloc (.cells #[.int .i64 0, .int .i64 c.k1, .int .i64 c.k2, .int .i64 c.a0, .int .i64 0, .int .i64 c.a2, .slice ta c.T.length tc, .int .i64 c.per, .int .i64 c.ret, .int .i64 c.age, .int .i64 c.dead] 25) = W7 at *
              replace dd0 := keep dd0
              replace dd1 := keep dd1
              replace dd2 := keep dd2
              replace dd3 := keep dd3
              replace dd4 := keep dd4
              replace dd5 := keep dd5
              replace dd6 := keep dd6
              replace dd7 := keep dd7
              replace dd8 := keep dd8
              replace dd9 := keep dd9
              replace dd10 := keep dd10
              generalize W6.heap.size = d7 at *
              have hbel : Below W7.heap.size W7 W7 := Below.refl _ _
              clear W6
              have HW7 := Lib.hid (belStep HW5.out hw)
              clear hw
              go_upto_region 21 with (first | (go_at_call 15; (with_reducible refine (CD.out _ (belStep HW7.out hbel)).mono ?_); rintro e wp ⟨rfl, hbp⟩; obtain ⟨jc, W8, hrun, hji, hjb, -, -⟩ := conv_row J2 wp (by have := HD2.out; omega); have hb8 := belStep (belStep hbel hbp) hjb; have HB8 := Lib.hid hb8; have HJI := Lib.hid hji; have HEE := Lib.hid (HE1.out.later (belStep HW7.out hb8)); clear hji hjb hb8 hbp hbel) | (go_at_call 16; (with_reducible refine (readC_no _ _ _ J2 _ _ W8 HEE.out HJI.out HD1.out).mono ?_); rintro e wm ⟨rfl, hbm⟩; have hbel := belStep HB8.out hbm; clear hbm))
              clear hrun
              go_wp2
              go_ret
              exact ⟨rfl, belStep HW.out (belStep HW7.out (belAlloc hbel _))⟩
          case rb_r82 =>
            have hg8 : W5.heap.size ≤ u0.heap.size := Below.size hHeld
            go_simp
            refine hK.out _ _ (by exact belAlloc hHeld _) (fun hHeld => ?_)
            clear hK K
            try simp only [Act.put, List.setIfInBounds_toArray, List.set_cons_zero, List.set_cons_succ]
            have hB8 : Blk (u0.alloc (.cells #[.int .i64 0, .int .i64 0, .int .i64 0, .int .i64 0, .int .i64 0, .int .i64 0, .slice none 0 0, .int .i64 0, .int .i64 0, .int .i64 0, .int .i64 0] 25)) u0.heap.size [.int .i64 0, .int .i64 0, .int .i64 0, .int .i64 0, .int .i64 0, .int .i64 0, .slice none 0 0, .int .i64 0, .int .i64 0, .int .i64 0, .int .i64 0] 25 := Blk.new u0 [.int .i64 0, .int .i64 0, .int .i64 0, .int .i64 0, .int .i64 0, .int .i64 0, .slice none 0 0, .int .i64 0, .int .i64 0, .int .i64 0, .int .i64 0] 25
            have hal := belAlloc (Below.refl u0.heap.size u0) (.cells #[.int .i64 0, .int .i64 0, .int .i64 0, .int .i64 0, .int .i64 0, .int .i64 0, .slice none 0 0, .int .i64 0, .int .i64 0, .int .i64 0, .int .i64 0] 25)
            clear hal
            generalize u0.alloc (.cells #[.int .i64 0, .int .i64 0, .int .i64 0, .int .i64 0, .int .i64 0, .int .i64 0, .slice none 0 0, .int .i64 0, .int .i64 0, .int .i64 0, .int .i64 0] 25) = u15 at *
            generalize u0.heap.size = g8 at *
            refine wpAnyH_ready (rs := [14]) (by kernel_rfl) (by simp) ?_
            refine AllReadyH.cons (o := ?o1_r81) ?hi_r81 (fun K hK => ?rest_r81) AllReadyH.nil
            case hi_r81 => ((simp only [List.getElem?_toArray, List.getElem?_cons_succ, List.getElem?_cons_zero]); rfl)
            obtain ⟨c9, W9, hrun9, hi9, hb9, -, -⟩ := conv_row X u15 (by omega)
            go_simp
            have hu9 := belStep hHeld hb9
            refine hK.out _ _ (by exact hu9) (fun hHeld => ?_)
            clear hK K hrun9 hu9
            try simp only [Act.put, List.setIfInBounds_toArray, List.set_cons_zero, List.set_cons_succ]
            replace hB8 := hB8.later hb9
            clear hb9
            refine wpAnyH_ready (rs := [15]) (by kernel_rfl) (by simp) ?_
            refine AllReadyH.cons (o := ?o1_r80) ?hi_r80 (fun K hK => ?rest_r80) AllReadyH.nil
            case hi_r80 => ((simp only [List.getElem?_toArray, List.getElem?_cons_succ, List.getElem?_cons_zero]); rfl)
            go_simp
            (go_at_call 16; (with_reducible refine (readC_no _ _ _ X _ _ _ (HEW.out _ hHeld) hi9 HX.out).mono ?_); rintro e wq ⟨rfl, hbq⟩)
            try go_simp
            have huq := belStep hHeld hbq
            refine hK.out _ _ (by exact huq) (fun hHeld => ?_)
            clear hK K hi9 huq
            try simp only [Act.put, List.setIfInBounds_toArray, List.set_cons_zero, List.set_cons_succ]
            replace hB8 := hB8.later hbq
            clear hbq
            refine wpAnyH_take (i := 16) (oi := ?oi_k73) (v := ?v_k73) ?hi_k73 (by kernel_rfl) ?hf_k73 ?hr_k73 ?hQ_k73 (Or.inl ⟨?hw_k73, ?hy_k73⟩) (by assumption) ?rest_k73
            case hi_k73 => ((simp only [List.getElem?_toArray, List.getElem?_cons_succ, List.getElem?_cons_zero]); rfl)
            case hf_k73 => kernel_rfl
            case hr_k73 => kernel_rfl
            case hQ_k73 => exact fun _ _ _ h => h
            case hw_k73 => rfl
            case hy_k73 => ((intro w hSw; (try dsimp only at hSw); go_simp); all_goals (with_reducible rfl))
            try simp only [Act.put, List.setIfInBounds_toArray, List.set_cons_zero, List.set_cons_succ]
            refine wpAnyH_take (i := 17) (oi := ?oi_k74) (v := ?v_k74) ?hi_k74 (by kernel_rfl) ?hf_k74 ?hr_k74 ?hQ_k74 (Or.inl ⟨?hw_k74, ?hy_k74⟩) (by assumption) ?rest_k74
            case hi_k74 => ((simp only [List.getElem?_toArray, List.getElem?_cons_succ, List.getElem?_cons_zero]); rfl)
            case hf_k74 => kernel_rfl
            case hr_k74 => kernel_rfl
            case hQ_k74 => exact fun _ _ _ h => h
            case hw_k74 => rfl
            case hy_k74 => ((intro w hSw; (try dsimp only at hSw); go_simp); all_goals (with_reducible rfl))
            try simp only [Act.put, List.setIfInBounds_toArray, List.set_cons_zero, List.set_cons_succ]
            refine wpAnyH_take (i := 18) (oi := ?oi_k75) (v := ?v_k75) ?hi_k75 (by kernel_rfl) ?hf_k75 ?hr_k75 ?hQ_k75 (Or.inl ⟨?hw_k75, ?hy_k75⟩) (by assumption) ?rest_k75
            case hi_k75 => ((simp only [List.getElem?_toArray, List.getElem?_cons_succ, List.getElem?_cons_zero]); rfl)
            case hf_k75 => kernel_rfl
            case hr_k75 => kernel_rfl
            case hQ_k75 => exact fun _ _ _ h => h
            case hw_k75 => rfl
            case hy_k75 => ((intro w hSw; (try dsimp only at hSw); go_simp); all_goals (with_reducible rfl))
            try simp only [Act.put, List.setIfInBounds_toArray, List.set_cons_zero, List.set_cons_succ]
            refine wpAnyH_take (i := 19) (oi := ?oi_k76) (v := ?v_k76) ?hi_k76 (by kernel_rfl) ?hf_k76 ?hr_k76 ?hQ_k76 (Or.inl ⟨?hw_k76, ?hy_k76⟩) (by assumption) ?rest_k76
            case hi_k76 => ((simp only [List.getElem?_toArray, List.getElem?_cons_succ, List.getElem?_cons_zero]); rfl)
            case hf_k76 => kernel_rfl
            case hr_k76 => kernel_rfl
            case hQ_k76 => exact fun _ _ _ h => h
            case hw_k76 => rfl
            case hy_k76 => ((intro w hSw; (try dsimp only at hSw); go_simp); all_goals (with_reducible rfl))
            try simp only [Act.put, List.setIfInBounds_toArray, List.set_cons_zero, List.set_cons_succ]
            have y0 := hB8.cell (j := 0) rfl
            have y1 := hB8.cell (j := 1) rfl
            have y2 := hB8.cell (j := 2) rfl
            have y3 := hB8.cell (j := 3) rfl
            have y4 := hB8.cell (j := 4) rfl
            have y5 := hB8.cell (j := 5) rfl
            have y6 := hB8.cell (j := 6) rfl
            have y7 := hB8.cell (j := 7) rfl
            have y8 := hB8.cell (j := 8) rfl
            have y9 := hB8.cell (j := 9) rfl
            have y10 := hB8.cell (j := 10) rfl
            have yf := hB8.frozen
            have hb16 := (belSet (belSet (belSet (belSet (belSet (belSet (belSet (belSet (belSet (belSet (belSet hHeld ⟨g8, 0, none⟩ (.int .i64 0) hg8) ⟨g8, 1, none⟩ (.int .i64 0) hg8) ⟨g8, 2, none⟩ (.int .i64 0) hg8) ⟨g8, 3, none⟩ (.int .i64 0) hg8) ⟨g8, 4, none⟩ (.int .i64 0) hg8) ⟨g8, 5, none⟩ (.int .i64 0) hg8) ⟨g8, 6, none⟩ (.slice none 0 0) hg8) ⟨g8, 7, none⟩ (.int .i64 0) hg8) ⟨g8, 8, none⟩ (.int .i64 0) hg8) ⟨g8, 9, none⟩ (.int .i64 0) hg8) ⟨g8, 10, none⟩ (.int .i64 0) hg8)
            have hR16 : Blk (((((((((((wq.setCell ⟨g8, 0, none⟩ (.int .i64 0)).setCell ⟨g8, 1, none⟩ (.int .i64 0)).setCell ⟨g8, 2, none⟩ (.int .i64 0)).setCell ⟨g8, 3, none⟩ (.int .i64 0)).setCell ⟨g8, 4, none⟩ (.int .i64 0)).setCell ⟨g8, 5, none⟩ (.int .i64 0)).setCell ⟨g8, 6, none⟩ (.slice none 0 0)).setCell ⟨g8, 7, none⟩ (.int .i64 0)).setCell ⟨g8, 8, none⟩ (.int .i64 0)).setCell ⟨g8, 9, none⟩ (.int .i64 0)).setCell ⟨g8, 10, none⟩ (.int .i64 0)) g8 [.int .i64 0, .int .i64 0, .int .i64 0, .int .i64 0, .int .i64 0, .int .i64 0, .slice none 0 0, .int .i64 0, .int .i64 0, .int .i64 0, .int .i64 0] 25 := (((((((((((hB8.set 0 (.int .i64 0)).set 1 (.int .i64 0)).set 2 (.int .i64 0)).set 3 (.int .i64 0)).set 4 (.int .i64 0)).set 5 (.int .i64 0)).set 6 (.slice none 0 0)).set 7 (.int .i64 0)).set 8 (.int .i64 0)).set 9 (.int .i64 0)).set 10 (.int .i64 0))
            refine wpAnyH_ready (rs := [21]) (by kernel_rfl) (by simp) ?_
            refine AllReadyH.cons (o := ?o1_k77) ?hi_k77 (fun K hK => ?rest_k77) AllReadyH.nil
            case hi_k77 => ((simp only [List.getElem?_toArray, List.getElem?_cons_succ, List.getElem?_cons_zero]); rfl)
            go_simp
            refine hK.out _ _ (by exact hb16) (fun hHeld => ?_)
            clear hK K
            try simp only [Act.put, List.setIfInBounds_toArray, List.set_cons_zero, List.set_cons_succ]
            refine wpAnyH_take (i := 22) (oi := ?oi_k78) (v := ?v_k78) ?hi_k78 (by kernel_rfl) ?hf_k78 ?hr_k78 ?hQ_k78 (Or.inl ⟨?hw_k78, ?hy_k78⟩) (by assumption) ?rest_k78
            case hi_k78 => ((simp only [List.getElem?_toArray, List.getElem?_cons_succ, List.getElem?_cons_zero]); rfl)
            case hf_k78 => kernel_rfl
            case hr_k78 => kernel_rfl
            case hQ_k78 => exact fun _ _ _ h => h
            case hw_k78 => rfl
            case hy_k78 => ((intro w hSw; (try dsimp only at hSw); go_simp); all_goals (with_reducible rfl))
            try simp only [Act.put, List.setIfInBounds_toArray, List.set_cons_zero, List.set_cons_succ]
            refine wpAnyH_take (i := 23) (oi := ?oi_k79) (v := ?v_k79) ?hi_k79 (by kernel_rfl) ?hf_k79 ?hr_k79 ?hQ_k79 (Or.inl ⟨?hw_k79, ?hy_k79⟩) (by assumption) ?rest_k79
            case hi_k79 => ((simp only [List.getElem?_toArray, List.getElem?_cons_succ, List.getElem?_cons_zero]); rfl)
            case hf_k79 => kernel_rfl
            case hr_k79 => kernel_rfl
            case hQ_k79 => exact fun _ _ _ h => h
            case hw_k79 => rfl
            case hy_k79 => ((intro w hSw; (try dsimp only at hSw); go_simp); all_goals (with_reducible rfl))
            try simp only [Act.put, List.setIfInBounds_toArray, List.set_cons_zero, List.set_cons_succ]
            refine wpAnyH_done (by kernel_rfl) ?_ _
            clear hHeld hB8 yf y0 y1 y2 y3 y4 y5 y6 y7 y8 y9 y10
            generalize ((((((((((wq.setCell ⟨g8, 0, none⟩ (.int .i64 0)).setCell ⟨g8, 1, none⟩ (.int .i64 0)).setCell ⟨g8, 2, none⟩ (.int .i64 0)).setCell ⟨g8, 3, none⟩ (.int .i64 0)).setCell ⟨g8, 4, none⟩ (.int .i64 0)).setCell ⟨g8, 5, none⟩ (.int .i64 0)).setCell ⟨g8, 6, none⟩ (.slice none 0 0)).setCell ⟨g8, 7, none⟩ (.int .i64 0)).setCell ⟨g8, 8, none⟩ (.int .i64 0)).setCell ⟨g8, 9, none⟩ (.int .i64 0)).setCell ⟨g8, 10, none⟩ (.int .i64 0) = W6 at *
            try clear hbel
            have hbel := hb16
            have HBxx := Lib.hid hR16
            clear hb16 hR16
            clear hwb hb0 hb9 hp0 hp1 hbt wi3 hws h10s
            have hne : (((m : Int) + 1) == ((m : Int) + 1)) = true := by simp
            go_upto_region 20 with fail
            clear HBxx
            have hw := Below.refl W5.heap.size W5
            have dd0 : (W6.alloc (.cells #[.int .i64 0, .int .i64 c.k1, .int .i64 c.k2, .int .i64 c.a0, .int .i64 0, .int .i64 c.a2, .slice ta c.T.length tc, .int .i64 c.per, .int .i64 c.ret, .int .i64 c.age, .int .i64 c.dead] 25)).cell? ⟨W6.heap.size, 0, none⟩ = some (.int .i64 0) := by first | (simp; done) | (rw [World.cell?_alloc_at _ _ _ _ (by simp)]; rfl) | (rw [World.cell?_alloc_past _ _ _ (by simp <;> omega), World.cell?_alloc_at _ _ _ _ (by simp)]; rfl) | (rw [World.cell?_alloc_past _ _ _ (by simp <;> omega), World.cell?_alloc_past _ _ _ (by simp <;> omega), World.cell?_alloc_at _ _ _ _ (by simp)]; rfl)
            have dd1 : (W6.alloc (.cells #[.int .i64 0, .int .i64 c.k1, .int .i64 c.k2, .int .i64 c.a0, .int .i64 0, .int .i64 c.a2, .slice ta c.T.length tc, .int .i64 c.per, .int .i64 c.ret, .int .i64 c.age, .int .i64 c.dead] 25)).cell? ⟨W6.heap.size, 1, none⟩ = some (.int .i64 c.k1) := by first | (simp; done) | (rw [World.cell?_alloc_at _ _ _ _ (by simp)]; rfl) | (rw [World.cell?_alloc_past _ _ _ (by simp <;> omega), World.cell?_alloc_at _ _ _ _ (by simp)]; rfl) | (rw [World.cell?_alloc_past _ _ _ (by simp <;> omega), World.cell?_alloc_past _ _ _ (by simp <;> omega), World.cell?_alloc_at _ _ _ _ (by simp)]; rfl)
            have dd2 : (W6.alloc (.cells #[.int .i64 0, .int .i64 c.k1, .int .i64 c.k2, .int .i64 c.a0, .int .i64 0, .int .i64 c.a2, .slice ta c.T.length tc, .int .i64 c.per, .int .i64 c.ret, .int .i64 c.age, .int .i64 c.dead] 25)).cell? ⟨W6.heap.size, 2, none⟩ = some (.int .i64 c.k2) := by first | (simp; done) | (rw [World.cell?_alloc_at _ _ _ _ (by simp)]; rfl) | (rw [World.cell?_alloc_past _ _ _ (by simp <;> omega), World.cell?_alloc_at _ _ _ _ (by simp)]; rfl) | (rw [World.cell?_alloc_past _ _ _ (by simp <;> omega), World.cell?_alloc_past _ _ _ (by simp <;> omega), World.cell?_alloc_at _ _ _ _ (by simp)]; rfl)
            have dd3 : (W6.alloc (.cells #[.int .i64 0, .int .i64 c.k1, .int .i64 c.k2, .int .i64 c.a0, .int .i64 0, .int .i64 c.a2, .slice ta c.T.length tc, .int .i64 c.per, .int .i64 c.ret, .int .i64 c.age, .int .i64 c.dead] 25)).cell? ⟨W6.heap.size, 3, none⟩ = some (.int .i64 c.a0) := by first | (simp; done) | (rw [World.cell?_alloc_at _ _ _ _ (by simp)]; rfl) | (rw [World.cell?_alloc_past _ _ _ (by simp <;> omega), World.cell?_alloc_at _ _ _ _ (by simp)]; rfl) | (rw [World.cell?_alloc_past _ _ _ (by simp <;> omega), World.cell?_alloc_past _ _ _ (by simp <;> omega), World.cell?_alloc_at _ _ _ _ (by simp)]; rfl)
            have dd4 : (W6.alloc (.cells #[.int .i64 0, .int .i64 c.k1, .int .i64 c.k2, .int .i64 c.a0, .int .i64 0, .int .i64 c.a2, .slice ta c.T.length tc, .int .i64 c.per, .int .i64 c.ret, .int .i64 c.age, .int .i64 c.dead] 25)).cell? ⟨W6.heap.size, 4, none⟩ = some (.int .i64 0) := by first | (simp; done) | (rw [World.cell?_alloc_at _ _ _ _ (by simp)]; rfl) | (rw [World.cell?_alloc_past _ _ _ (by simp <;> omega), World.cell?_alloc_at _ _ _ _ (by simp)]; rfl) | (rw [World.cell?_alloc_past _ _ _ (by simp <;> omega), World.cell?_alloc_past _ _ _ (by simp <;> omega), World.cell?_alloc_at _ _ _ _ (by simp)]; rfl)
            have dd5 : (W6.alloc (.cells #[.int .i64 0, .int .i64 c.k1, .int .i64 c.k2, .int .i64 c.a0, .int .i64 0, .int .i64 c.a2, .slice ta c.T.length tc, .int .i64 c.per, .int .i64 c.ret, .int .i64 c.age, .int .i64 c.dead] 25)).cell? ⟨W6.heap.size, 5, none⟩ = some (.int .i64 c.a2) := by first | (simp; done) | (rw [World.cell?_alloc_at _ _ _ _ (by simp)]; rfl) | (rw [World.cell?_alloc_past _ _ _ (by simp <;> omega), World.cell?_alloc_at _ _ _ _ (by simp)]; rfl) | (rw [World.cell?_alloc_past _ _ _ (by simp <;> omega), World.cell?_alloc_past _ _ _ (by simp <;> omega), World.cell?_alloc_at _ _ _ _ (by simp)]; rfl)
            have dd6 : (W6.alloc (.cells #[.int .i64 0, .int .i64 c.k1, .int .i64 c.k2, .int .i64 c.a0, .int .i64 0, .int .i64 c.a2, .slice ta c.T.length tc, .int .i64 c.per, .int .i64 c.ret, .int .i64 c.age, .int .i64 c.dead] 25)).cell? ⟨W6.heap.size, 6, none⟩ = some (.slice ta c.T.length tc) := by first | (simp; done) | (rw [World.cell?_alloc_at _ _ _ _ (by simp)]; rfl) | (rw [World.cell?_alloc_past _ _ _ (by simp <;> omega), World.cell?_alloc_at _ _ _ _ (by simp)]; rfl) | (rw [World.cell?_alloc_past _ _ _ (by simp <;> omega), World.cell?_alloc_past _ _ _ (by simp <;> omega), World.cell?_alloc_at _ _ _ _ (by simp)]; rfl)
            have dd7 : (W6.alloc (.cells #[.int .i64 0, .int .i64 c.k1, .int .i64 c.k2, .int .i64 c.a0, .int .i64 0, .int .i64 c.a2, .slice ta c.T.length tc, .int .i64 c.per, .int .i64 c.ret, .int .i64 c.age, .int .i64 c.dead] 25)).cell? ⟨W6.heap.size, 7, none⟩ = some (.int .i64 c.per) := by first | (simp; done) | (rw [World.cell?_alloc_at _ _ _ _ (by simp)]; rfl) | (rw [World.cell?_alloc_past _ _ _ (by simp <;> omega), World.cell?_alloc_at _ _ _ _ (by simp)]; rfl) | (rw [World.cell?_alloc_past _ _ _ (by simp <;> omega), World.cell?_alloc_past _ _ _ (by simp <;> omega), World.cell?_alloc_at _ _ _ _ (by simp)]; rfl)
            have dd8 : (W6.alloc (.cells #[.int .i64 0, .int .i64 c.k1, .int .i64 c.k2, .int .i64 c.a0, .int .i64 0, .int .i64 c.a2, .slice ta c.T.length tc, .int .i64 c.per, .int .i64 c.ret, .int .i64 c.age, .int .i64 c.dead] 25)).cell? ⟨W6.heap.size, 8, none⟩ = some (.int .i64 c.ret) := by first | (simp; done) | (rw [World.cell?_alloc_at _ _ _ _ (by simp)]; rfl) | (rw [World.cell?_alloc_past _ _ _ (by simp <;> omega), World.cell?_alloc_at _ _ _ _ (by simp)]; rfl) | (rw [World.cell?_alloc_past _ _ _ (by simp <;> omega), World.cell?_alloc_past _ _ _ (by simp <;> omega), World.cell?_alloc_at _ _ _ _ (by simp)]; rfl)
            have dd9 : (W6.alloc (.cells #[.int .i64 0, .int .i64 c.k1, .int .i64 c.k2, .int .i64 c.a0, .int .i64 0, .int .i64 c.a2, .slice ta c.T.length tc, .int .i64 c.per, .int .i64 c.ret, .int .i64 c.age, .int .i64 c.dead] 25)).cell? ⟨W6.heap.size, 9, none⟩ = some (.int .i64 c.age) := by first | (simp; done) | (rw [World.cell?_alloc_at _ _ _ _ (by simp)]; rfl) | (rw [World.cell?_alloc_past _ _ _ (by simp <;> omega), World.cell?_alloc_at _ _ _ _ (by simp)]; rfl) | (rw [World.cell?_alloc_past _ _ _ (by simp <;> omega), World.cell?_alloc_past _ _ _ (by simp <;> omega), World.cell?_alloc_at _ _ _ _ (by simp)]; rfl)
            have dd10 : (W6.alloc (.cells #[.int .i64 0, .int .i64 c.k1, .int .i64 c.k2, .int .i64 c.a0, .int .i64 0, .int .i64 c.a2, .slice ta c.T.length tc, .int .i64 c.per, .int .i64 c.ret, .int .i64 c.age, .int .i64 c.dead] 25)).cell? ⟨W6.heap.size, 10, none⟩ = some (.int .i64 c.dead) := by first | (simp; done) | (rw [World.cell?_alloc_at _ _ _ _ (by simp)]; rfl) | (rw [World.cell?_alloc_past _ _ _ (by simp <;> omega), World.cell?_alloc_at _ _ _ _ (by simp)]; rfl) | (rw [World.cell?_alloc_past _ _ _ (by simp <;> omega), World.cell?_alloc_past _ _ _ (by simp <;> omega), World.cell?_alloc_at _ _ _ _ (by simp)]; rfl)
            have hb2 := (by repeat (first | exact hbel | refine belAlloc ?_ _ | refine belDrew ?_ | refine belSet ?_ _ _ (by simp)) : Below W5.heap.size W5 (W6.alloc (.cells #[.int .i64 0, .int .i64 c.k1, .int .i64 c.k2, .int .i64 c.a0, .int .i64 0, .int .i64 c.a2, .slice ta c.T.length tc, .int .i64 c.per, .int .i64 c.ret, .int .i64 c.age, .int .i64 c.dead] 25)))
            replace hw := belStep hw hb2
            clear hb2 hbel
            generalize W6.alloc (.cells #[.int .i64 0, .int .i64 c.k1, .int .i64 c.k2, .int .i64 c.a0, .int .i64 0, .int .i64 c.a2, .slice ta c.T.length tc, .int .i64 c.per, .int .i64 c.ret, .int .i64 c.age, .int .i64 c.dead] 25) = W7 at *
            replace dd0 := keep dd0
            replace dd1 := keep dd1
            replace dd2 := keep dd2
            replace dd3 := keep dd3
            replace dd4 := keep dd4
            replace dd5 := keep dd5
            replace dd6 := keep dd6
            replace dd7 := keep dd7
            replace dd8 := keep dd8
            replace dd9 := keep dd9
            replace dd10 := keep dd10
            generalize W6.heap.size = d7 at *
            have hbel : Below W7.heap.size W7 W7 := Below.refl _ _
            clear W6
            have HW7 := Lib.hid (belStep HW5.out hw)
            clear hw
            go_upto_region 21 with (first | (go_at_call 15; (with_reducible refine (CD.out _ (belStep HW7.out hbel)).mono ?_); rintro e wp ⟨rfl, hbp⟩; obtain ⟨jc, W8, hrun, hji, hjb, -, -⟩ := conv_row J2 wp (by have := HD2.out; omega); have hb8 := belStep (belStep hbel hbp) hjb; have HB8 := Lib.hid hb8; have HJI := Lib.hid hji; have HEE := Lib.hid (HE1.out.later (belStep HW7.out hb8)); clear hji hjb hb8 hbp hbel) | (go_at_call 16; (with_reducible refine (readC_no _ _ _ J2 _ _ W8 HEE.out HJI.out HD1.out).mono ?_); rintro e wm ⟨rfl, hbm⟩; have hbel := belStep HB8.out hbm; clear hbm))
            clear hrun
            go_wp2
            go_ret
            exact ⟨rfl, belStep HW.out (belStep HW7.out (belAlloc hbel _))⟩
        | succ gq =>
          have hil : i < S.size := by omega
          have hd : decide ((i : Int) < (S.size : Int)) = true := decide_eq_true (by omega)
          have hii : (i : Int) < (S.size : Int) := by omega
          have hi0 : (0 : Int) ≤ (i : Int) := by omega
          by_cases hlt2 : m + 1 ≤ kk
          · have hd2 : decide ((m : Int) + 1 ≤ (kk : Int)) = true := decide_eq_true (by omega)
            have hlm : (m : Int) + 1 ≤ (kk : Int) := by omega
            rcases Classical.em (S[i] = 10) with h10 | h10
            · have t10 : ((S[i].toNat : Int) == 10) = true := by rw [h10]; rfl
              obtain ⟨hL2, hP2, hm2⟩ := HLA.out.hit HOK.out (by rw [← HSZ.out]; exact hil) (by rw [← s_at HS.out hil]; exact h10)
              have HL2 := Lib.hid hL2
              have HP2 := Lib.hid hP2
              have hm18 : m < 18 := Nat.lt_of_lt_of_le hm2 HL3.out
              clear hL2 hP2 h10
              go_wp2
              go_roundg gq
              case rel => exact ⟨i + 1, m + 1, i + 1, by omega, by push_cast; rfl, by push_cast; rfl, by push_cast; rfl, HP2, HL2, hbel⟩
              case measure => omega
            · have t10 : ((S[i].toNat : Int) == 10) = false := by rw [beq_eq_false_iff_ne]; exact u8_ne h10
              have HL2 := Lib.hid (HLA.out.miss HOK.out (by rw [← HSZ.out]; exact hil) (by rw [← s_at HS.out hil]; exact h10))
              clear h10
              go_wp2
              go_roundg gq
              case rel => exact ⟨i + 1, m, pm, by omega, rfl, rfl, by push_cast; rfl, HPM, HL2, hbel⟩
              case measure => omega
          · have hd2 : decide ((m : Int) + 1 ≤ (kk : Int)) = false := decide_eq_false (by omega)
            have hlm : ¬ (m : Int) + 1 ≤ (kk : Int) := by omega
            clear hit wi1 wi2
            obtain ⟨hbt, wi3⟩ := HBB.out
            have hmL := HLA.out.hm
            have hm18 : m ≤ 18 := Nat.le_trans hmL HL3.out
            have hpS : pm ≤ S.size := by rw [HSZ.out, ← HPM.out]; exact posL_le LL m
            obtain ⟨X, hX1, hX2, hX3⟩ := wrong_text LL m pm b HPM.out hmL hb8 HS.out hs2
            have HX := Lib.hid (hX1 ▸ HWR.out m hmL b hb8 : confF X = .error ((m : Int) + 1, 2))
            have HXX := Lib.hid hX2
            clear hX1 hX2
            go_upto_region 14 with fail
            have hw := Below.refl W1.heap.size W1
            have ww0 : (wr.alloc (.cells #[.string ⟨#[111, 116, 104, 101, 114, 32, 49]⟩, .string ⟨#[112, 101, 114, 105, 111, 100]⟩, .string ⟨#[112, 101, 114, 105, 111, 100, 32, 49, 32, 50]⟩, .string ⟨#[114, 101, 116, 114, 105, 101, 115, 32, 120]⟩, .string ⟨#[116, 104, 114, 101, 115, 104, 111, 108, 100]⟩, .string ⟨#[116, 104, 114, 101, 115, 104, 111, 108, 100, 32, 112, 105, 100, 60, 48]⟩, .string ⟨#[99, 97, 112, 97, 99, 105, 116, 121, 32, 49, 32, 50]⟩, .string ⟨#[100, 101, 97, 100, 32, 45, 49]⟩] 9)).cell? ⟨wr.heap.size, 0, none⟩ = some (.string ⟨#[111, 116, 104, 101, 114, 32, 49]⟩) := by first | (simp; done) | (rw [World.cell?_alloc_at _ _ _ _ (by simp)]; rfl) | (rw [World.cell?_alloc_past _ _ _ (by simp <;> omega), World.cell?_alloc_at _ _ _ _ (by simp)]; rfl) | (rw [World.cell?_alloc_past _ _ _ (by simp <;> omega), World.cell?_alloc_past _ _ _ (by simp <;> omega), World.cell?_alloc_at _ _ _ _ (by simp)]; rfl)
            have ww1 : (wr.alloc (.cells #[.string ⟨#[111, 116, 104, 101, 114, 32, 49]⟩, .string ⟨#[112, 101, 114, 105, 111, 100]⟩, .string ⟨#[112, 101, 114, 105, 111, 100, 32, 49, 32, 50]⟩, .string ⟨#[114, 101, 116, 114, 105, 101, 115, 32, 120]⟩, .string ⟨#[116, 104, 114, 101, 115, 104, 111, 108, 100]⟩, .string ⟨#[116, 104, 114, 101, 115, 104, 111, 108, 100, 32, 112, 105, 100, 60, 48]⟩, .string ⟨#[99, 97, 112, 97, 99, 105, 116, 121, 32, 49, 32, 50]⟩, .string ⟨#[100, 101, 97, 100, 32, 45, 49]⟩] 9)).cell? ⟨wr.heap.size, 1, none⟩ = some (.string ⟨#[112, 101, 114, 105, 111, 100]⟩) := by first | (simp; done) | (rw [World.cell?_alloc_at _ _ _ _ (by simp)]; rfl) | (rw [World.cell?_alloc_past _ _ _ (by simp <;> omega), World.cell?_alloc_at _ _ _ _ (by simp)]; rfl) | (rw [World.cell?_alloc_past _ _ _ (by simp <;> omega), World.cell?_alloc_past _ _ _ (by simp <;> omega), World.cell?_alloc_at _ _ _ _ (by simp)]; rfl)
            have ww2 : (wr.alloc (.cells #[.string ⟨#[111, 116, 104, 101, 114, 32, 49]⟩, .string ⟨#[112, 101, 114, 105, 111, 100]⟩, .string ⟨#[112, 101, 114, 105, 111, 100, 32, 49, 32, 50]⟩, .string ⟨#[114, 101, 116, 114, 105, 101, 115, 32, 120]⟩, .string ⟨#[116, 104, 114, 101, 115, 104, 111, 108, 100]⟩, .string ⟨#[116, 104, 114, 101, 115, 104, 111, 108, 100, 32, 112, 105, 100, 60, 48]⟩, .string ⟨#[99, 97, 112, 97, 99, 105, 116, 121, 32, 49, 32, 50]⟩, .string ⟨#[100, 101, 97, 100, 32, 45, 49]⟩] 9)).cell? ⟨wr.heap.size, 2, none⟩ = some (.string ⟨#[112, 101, 114, 105, 111, 100, 32, 49, 32, 50]⟩) := by first | (simp; done) | (rw [World.cell?_alloc_at _ _ _ _ (by simp)]; rfl) | (rw [World.cell?_alloc_past _ _ _ (by simp <;> omega), World.cell?_alloc_at _ _ _ _ (by simp)]; rfl) | (rw [World.cell?_alloc_past _ _ _ (by simp <;> omega), World.cell?_alloc_past _ _ _ (by simp <;> omega), World.cell?_alloc_at _ _ _ _ (by simp)]; rfl)
            have ww3 : (wr.alloc (.cells #[.string ⟨#[111, 116, 104, 101, 114, 32, 49]⟩, .string ⟨#[112, 101, 114, 105, 111, 100]⟩, .string ⟨#[112, 101, 114, 105, 111, 100, 32, 49, 32, 50]⟩, .string ⟨#[114, 101, 116, 114, 105, 101, 115, 32, 120]⟩, .string ⟨#[116, 104, 114, 101, 115, 104, 111, 108, 100]⟩, .string ⟨#[116, 104, 114, 101, 115, 104, 111, 108, 100, 32, 112, 105, 100, 60, 48]⟩, .string ⟨#[99, 97, 112, 97, 99, 105, 116, 121, 32, 49, 32, 50]⟩, .string ⟨#[100, 101, 97, 100, 32, 45, 49]⟩] 9)).cell? ⟨wr.heap.size, 3, none⟩ = some (.string ⟨#[114, 101, 116, 114, 105, 101, 115, 32, 120]⟩) := by first | (simp; done) | (rw [World.cell?_alloc_at _ _ _ _ (by simp)]; rfl) | (rw [World.cell?_alloc_past _ _ _ (by simp <;> omega), World.cell?_alloc_at _ _ _ _ (by simp)]; rfl) | (rw [World.cell?_alloc_past _ _ _ (by simp <;> omega), World.cell?_alloc_past _ _ _ (by simp <;> omega), World.cell?_alloc_at _ _ _ _ (by simp)]; rfl)
            have ww4 : (wr.alloc (.cells #[.string ⟨#[111, 116, 104, 101, 114, 32, 49]⟩, .string ⟨#[112, 101, 114, 105, 111, 100]⟩, .string ⟨#[112, 101, 114, 105, 111, 100, 32, 49, 32, 50]⟩, .string ⟨#[114, 101, 116, 114, 105, 101, 115, 32, 120]⟩, .string ⟨#[116, 104, 114, 101, 115, 104, 111, 108, 100]⟩, .string ⟨#[116, 104, 114, 101, 115, 104, 111, 108, 100, 32, 112, 105, 100, 60, 48]⟩, .string ⟨#[99, 97, 112, 97, 99, 105, 116, 121, 32, 49, 32, 50]⟩, .string ⟨#[100, 101, 97, 100, 32, 45, 49]⟩] 9)).cell? ⟨wr.heap.size, 4, none⟩ = some (.string ⟨#[116, 104, 114, 101, 115, 104, 111, 108, 100]⟩) := by first | (simp; done) | (rw [World.cell?_alloc_at _ _ _ _ (by simp)]; rfl) | (rw [World.cell?_alloc_past _ _ _ (by simp <;> omega), World.cell?_alloc_at _ _ _ _ (by simp)]; rfl) | (rw [World.cell?_alloc_past _ _ _ (by simp <;> omega), World.cell?_alloc_past _ _ _ (by simp <;> omega), World.cell?_alloc_at _ _ _ _ (by simp)]; rfl)
            have ww5 : (wr.alloc (.cells #[.string ⟨#[111, 116, 104, 101, 114, 32, 49]⟩, .string ⟨#[112, 101, 114, 105, 111, 100]⟩, .string ⟨#[112, 101, 114, 105, 111, 100, 32, 49, 32, 50]⟩, .string ⟨#[114, 101, 116, 114, 105, 101, 115, 32, 120]⟩, .string ⟨#[116, 104, 114, 101, 115, 104, 111, 108, 100]⟩, .string ⟨#[116, 104, 114, 101, 115, 104, 111, 108, 100, 32, 112, 105, 100, 60, 48]⟩, .string ⟨#[99, 97, 112, 97, 99, 105, 116, 121, 32, 49, 32, 50]⟩, .string ⟨#[100, 101, 97, 100, 32, 45, 49]⟩] 9)).cell? ⟨wr.heap.size, 5, none⟩ = some (.string ⟨#[116, 104, 114, 101, 115, 104, 111, 108, 100, 32, 112, 105, 100, 60, 48]⟩) := by first | (simp; done) | (rw [World.cell?_alloc_at _ _ _ _ (by simp)]; rfl) | (rw [World.cell?_alloc_past _ _ _ (by simp <;> omega), World.cell?_alloc_at _ _ _ _ (by simp)]; rfl) | (rw [World.cell?_alloc_past _ _ _ (by simp <;> omega), World.cell?_alloc_past _ _ _ (by simp <;> omega), World.cell?_alloc_at _ _ _ _ (by simp)]; rfl)
            have ww6 : (wr.alloc (.cells #[.string ⟨#[111, 116, 104, 101, 114, 32, 49]⟩, .string ⟨#[112, 101, 114, 105, 111, 100]⟩, .string ⟨#[112, 101, 114, 105, 111, 100, 32, 49, 32, 50]⟩, .string ⟨#[114, 101, 116, 114, 105, 101, 115, 32, 120]⟩, .string ⟨#[116, 104, 114, 101, 115, 104, 111, 108, 100]⟩, .string ⟨#[116, 104, 114, 101, 115, 104, 111, 108, 100, 32, 112, 105, 100, 60, 48]⟩, .string ⟨#[99, 97, 112, 97, 99, 105, 116, 121, 32, 49, 32, 50]⟩, .string ⟨#[100, 101, 97, 100, 32, 45, 49]⟩] 9)).cell? ⟨wr.heap.size, 6, none⟩ = some (.string ⟨#[99, 97, 112, 97, 99, 105, 116, 121, 32, 49, 32, 50]⟩) := by first | (simp; done) | (rw [World.cell?_alloc_at _ _ _ _ (by simp)]; rfl) | (rw [World.cell?_alloc_past _ _ _ (by simp <;> omega), World.cell?_alloc_at _ _ _ _ (by simp)]; rfl) | (rw [World.cell?_alloc_past _ _ _ (by simp <;> omega), World.cell?_alloc_past _ _ _ (by simp <;> omega), World.cell?_alloc_at _ _ _ _ (by simp)]; rfl)
            have ww7 : (wr.alloc (.cells #[.string ⟨#[111, 116, 104, 101, 114, 32, 49]⟩, .string ⟨#[112, 101, 114, 105, 111, 100]⟩, .string ⟨#[112, 101, 114, 105, 111, 100, 32, 49, 32, 50]⟩, .string ⟨#[114, 101, 116, 114, 105, 101, 115, 32, 120]⟩, .string ⟨#[116, 104, 114, 101, 115, 104, 111, 108, 100]⟩, .string ⟨#[116, 104, 114, 101, 115, 104, 111, 108, 100, 32, 112, 105, 100, 60, 48]⟩, .string ⟨#[99, 97, 112, 97, 99, 105, 116, 121, 32, 49, 32, 50]⟩, .string ⟨#[100, 101, 97, 100, 32, 45, 49]⟩] 9)).cell? ⟨wr.heap.size, 7, none⟩ = some (.string ⟨#[100, 101, 97, 100, 32, 45, 49]⟩) := by first | (simp; done) | (rw [World.cell?_alloc_at _ _ _ _ (by simp)]; rfl) | (rw [World.cell?_alloc_past _ _ _ (by simp <;> omega), World.cell?_alloc_at _ _ _ _ (by simp)]; rfl) | (rw [World.cell?_alloc_past _ _ _ (by simp <;> omega), World.cell?_alloc_past _ _ _ (by simp <;> omega), World.cell?_alloc_at _ _ _ _ (by simp)]; rfl)
            have hb2 := (by repeat (first | exact hbel | refine belAlloc ?_ _ | refine belDrew ?_ | refine belSet ?_ _ _ (by simp)) : Below W1.heap.size W1 (wr.alloc (.cells #[.string ⟨#[111, 116, 104, 101, 114, 32, 49]⟩, .string ⟨#[112, 101, 114, 105, 111, 100]⟩, .string ⟨#[112, 101, 114, 105, 111, 100, 32, 49, 32, 50]⟩, .string ⟨#[114, 101, 116, 114, 105, 101, 115, 32, 120]⟩, .string ⟨#[116, 104, 114, 101, 115, 104, 111, 108, 100]⟩, .string ⟨#[116, 104, 114, 101, 115, 104, 111, 108, 100, 32, 112, 105, 100, 60, 48]⟩, .string ⟨#[99, 97, 112, 97, 99, 105, 116, 121, 32, 49, 32, 50]⟩, .string ⟨#[100, 101, 97, 100, 32, 45, 49]⟩] 9)))
            replace cc0 := keepOnP cc0 hb2
            replace cc1 := keepOnP cc1 hb2
            replace cc2 := keepOnP cc2 hb2
            replace cc3 := keepOnP cc3 hb2
            replace cc4 := keepOnP cc4 hb2
            replace cc5 := keepOnP cc5 hb2
            replace cc6 := keepOnP cc6 hb2
            replace cc7 := keepOnP cc7 hb2
            replace cc8 := keepOnP cc8 hb2
            replace cc9 := keepOnP cc9 hb2
            replace cc10 := keepOnP cc10 hb2
            replace hw := belStep hw hb2
            clear hb2 hbel
            generalize wr.alloc (.cells #[.string ⟨#[111, 116, 104, 101, 114, 32, 49]⟩, .string ⟨#[112, 101, 114, 105, 111, 100]⟩, .string ⟨#[112, 101, 114, 105, 111, 100, 32, 49, 32, 50]⟩, .string ⟨#[114, 101, 116, 114, 105, 101, 115, 32, 120]⟩, .string ⟨#[116, 104, 114, 101, 115, 104, 111, 108, 100]⟩, .string ⟨#[116, 104, 114, 101, 115, 104, 111, 108, 100, 32, 112, 105, 100, 60, 48]⟩, .string ⟨#[99, 97, 112, 97, 99, 105, 116, 121, 32, 49, 32, 50]⟩, .string ⟨#[100, 101, 97, 100, 32, 45, 49]⟩] 9) = W5 at *
            replace ww0 := keep ww0
            replace ww1 := keep ww1
            replace ww2 := keep ww2
            replace ww3 := keep ww3
            replace ww4 := keep ww4
            replace ww5 := keep ww5
            replace ww6 := keep ww6
            replace ww7 := keep ww7
            generalize wr.heap.size = g5 at *
            have hbel : Below W5.heap.size W5 W5 := Below.refl _ _
            clear wr
            have HW5 := Lib.hid hw
            clear hw ccB ccF
            have hwb : ∀ u, Below W5.heap.size W5 u → u.cell? ⟨g5, b, none⟩ = some (.string (wrS b)) := by rcases (show b = 0 ∨ b = 1 ∨ b = 2 ∨ b = 3 ∨ b = 4 ∨ b = 5 ∨ b = 6 ∨ b = 7 by omega) with rfl | rfl | rfl | rfl | rfl | rfl | rfl | rfl <;> first | exact ww0 | exact ww1 | exact ww2 | exact ww3 | exact ww4 | exact ww5 | exact ww6 | exact ww7
            clear ww0 ww1 ww2 ww3 ww4 ww5 ww6 ww7
            have HEW := Lib.hid (fun u (hu : Below W5.heap.size W5 u) => HE1.out.later (belStep HW5.out hu))
            have hb0 : (0 : Int) ≤ (b : Int) := by omega
            have hb9 : (b : Int) < 8 := by omega
            have hp0 : (0 : Int) ≤ (pm : Int) := by omega
            have hp1 : (pm : Int) ≤ (S.size : Int) := by omega
            have hws := wrS_size b hb8
            have h10s : (⟨#[10]⟩ : ByteArray).size = 1 := rfl
            have hxx := HXX.out
            refine wp_region_held_drew (S := fun u => Below W5.heap.size W5 u) (by kernel_rfl) (by exact (show Below W5.heap.size W5 _ by repeat (first | assumption | exact Below.refl _ _ | refine belDrew ?_ | refine belAlloc ?_ _ | refine belStep ?_ (by assumption)))) (fun hHeld => ?_)
            refine wpAnyH_take (i := 0) (oi := ?oi_k1) (v := ?v_k1) ?hi_k1 (by kernel_rfl) ?hf_k1 ?hr_k1 ?hQ_k1 (Or.inl ⟨?hw_k1, ?hy_k1⟩) (by assumption) ?rest_k1
            case hi_k1 => ((simp only [List.getElem?_toArray, List.getElem?_cons_succ, List.getElem?_cons_zero]); rfl)
            case hf_k1 => kernel_rfl
            case hr_k1 => kernel_rfl
            case hQ_k1 => exact fun _ _ _ h => h
            case hw_k1 => rfl
            case hy_k1 => ((intro w hSw; (try dsimp only at hSw); go_simp; (try rw [if_neg (by omega)])); all_goals (with_reducible rfl))
            try simp only [Act.put, List.setIfInBounds_toArray, List.set_cons_zero, List.set_cons_succ]
            refine wpAnyH_take (i := 1) (oi := ?oi_k2) (v := ?v_k2) ?hi_k2 (by kernel_rfl) ?hf_k2 ?hr_k2 ?hQ_k2 (Or.inl ⟨?hw_k2, ?hy_k2⟩) (by assumption) ?rest_k2
            case hi_k2 => ((simp only [List.getElem?_toArray, List.getElem?_cons_succ, List.getElem?_cons_zero]); rfl)
            case hf_k2 => kernel_rfl
            case hr_k2 => kernel_rfl
            case hQ_k2 => exact fun _ _ _ h => h
            case hw_k2 => rfl
            case hy_k2 => ((intro w hSw; (try dsimp only at hSw); go_simp; (try rw [if_neg (by omega)])); all_goals (with_reducible rfl))
            try simp only [Act.put, List.setIfInBounds_toArray, List.set_cons_zero, List.set_cons_succ]
            refine wpAnyH_take (i := 2) (oi := ?oi_k3) (v := ?v_k3) ?hi_k3 (by kernel_rfl) ?hf_k3 ?hr_k3 ?hQ_k3 (Or.inl ⟨?hw_k3, ?hy_k3⟩) (by assumption) ?rest_k3
            case hi_k3 => ((simp only [List.getElem?_toArray, List.getElem?_cons_succ, List.getElem?_cons_zero]); rfl)
            case hf_k3 => kernel_rfl
            case hr_k3 => kernel_rfl
            case hQ_k3 => exact fun _ _ _ h => h
            case hw_k3 => rfl
            case hy_k3 => ((intro w hSw; (try dsimp only at hSw); go_simp; (try rw [if_neg (by omega)])); all_goals (with_reducible rfl))
            try simp only [Act.put, List.setIfInBounds_toArray, List.set_cons_zero, List.set_cons_succ]
            refine wpAnyH_take (i := 3) (oi := ?oi_k4) (v := ?v_k4) ?hi_k4 (by kernel_rfl) ?hf_k4 ?hr_k4 ?hQ_k4 (Or.inl ⟨?hw_k4, ?hy_k4⟩) (by assumption) ?rest_k4
            case hi_k4 => ((simp only [List.getElem?_toArray, List.getElem?_cons_succ, List.getElem?_cons_zero]); rfl)
            case hf_k4 => kernel_rfl
            case hr_k4 => kernel_rfl
            case hQ_k4 => exact fun _ _ _ h => h
            case hw_k4 => rfl
            case hy_k4 => ((intro w hSw; (try dsimp only at hSw); go_simp; (try rw [if_neg (by omega)])); all_goals (with_reducible rfl))
            try simp only [Act.put, List.setIfInBounds_toArray, List.set_cons_zero, List.set_cons_succ]
            refine wpAnyH_take (i := 4) (oi := ?oi_k5) (v := ?v_k5) ?hi_k5 (by kernel_rfl) ?hf_k5 ?hr_k5 ?hQ_k5 (Or.inl ⟨?hw_k5, ?hy_k5⟩) (by assumption) ?rest_k5
            case hi_k5 => ((simp only [List.getElem?_toArray, List.getElem?_cons_succ, List.getElem?_cons_zero]); rfl)
            case hf_k5 => kernel_rfl
            case hr_k5 => kernel_rfl
            case hQ_k5 => exact fun _ _ _ h => h
            case hw_k5 => rfl
            case hy_k5 => ((intro w hSw; (try dsimp only at hSw); go_simp; (try rw [if_neg (by omega)])); all_goals (with_reducible rfl))
            try simp only [Act.put, List.setIfInBounds_toArray, List.set_cons_zero, List.set_cons_succ]
            refine wpAnyH_take (i := 5) (oi := ?oi_k6) (v := ?v_k6) ?hi_k6 (by kernel_rfl) ?hf_k6 ?hr_k6 ?hQ_k6 (Or.inl ⟨?hw_k6, ?hy_k6⟩) (by assumption) ?rest_k6
            case hi_k6 => ((simp only [List.getElem?_toArray, List.getElem?_cons_succ, List.getElem?_cons_zero]); rfl)
            case hf_k6 => kernel_rfl
            case hr_k6 => kernel_rfl
            case hQ_k6 => exact fun _ _ _ h => h
            case hw_k6 => rfl
            case hy_k6 => ((intro w hSw; (try dsimp only at hSw); go_simp; (try rw [if_neg (by omega)])); all_goals (with_reducible rfl))
            try simp only [Act.put, List.setIfInBounds_toArray, List.set_cons_zero, List.set_cons_succ]
            refine wpAnyH_take (i := 6) (oi := ?oi_k7) (v := ?v_k7) ?hi_k7 (by kernel_rfl) ?hf_k7 ?hr_k7 ?hQ_k7 (Or.inl ⟨?hw_k7, ?hy_k7⟩) (by assumption) ?rest_k7
            case hi_k7 => ((simp only [List.getElem?_toArray, List.getElem?_cons_succ, List.getElem?_cons_zero]); rfl)
            case hf_k7 => kernel_rfl
            case hr_k7 => kernel_rfl
            case hQ_k7 => exact fun _ _ _ h => h
            case hw_k7 => rfl
            case hy_k7 => ((intro w hSw; (try dsimp only at hSw); go_simp; (try rw [if_neg (by omega)])); all_goals (with_reducible rfl))
            try simp only [Act.put, List.setIfInBounds_toArray, List.set_cons_zero, List.set_cons_succ]
            refine wpAnyH_take (i := 7) (oi := ?oi_k8) (v := ?v_k8) ?hi_k8 (by kernel_rfl) ?hf_k8 ?hr_k8 ?hQ_k8 (Or.inl ⟨?hw_k8, ?hy_k8⟩) (by assumption) ?rest_k8
            case hi_k8 => ((simp only [List.getElem?_toArray, List.getElem?_cons_succ, List.getElem?_cons_zero]); rfl)
            case hf_k8 => kernel_rfl
            case hr_k8 => kernel_rfl
            case hQ_k8 => exact fun _ _ _ h => h
            case hw_k8 => rfl
            case hy_k8 => ((intro w hSw; (try dsimp only at hSw); have hcx := hwb w hSw; go_simp; (try rw [if_neg (by omega)])); all_goals (with_reducible rfl))
            try simp only [Act.put, List.setIfInBounds_toArray, List.set_cons_zero, List.set_cons_succ]
            refine wpAnyH_take (i := 8) (oi := ?oi_k9) (v := ?v_k9) ?hi_k9 (by kernel_rfl) ?hf_k9 ?hr_k9 ?hQ_k9 (Or.inl ⟨?hw_k9, ?hy_k9⟩) (by assumption) ?rest_k9
            case hi_k9 => ((simp only [List.getElem?_toArray, List.getElem?_cons_succ, List.getElem?_cons_zero]); rfl)
            case hf_k9 => kernel_rfl
            case hr_k9 => kernel_rfl
            case hQ_k9 => exact fun _ _ _ h => h
            case hw_k9 => rfl
            case hy_k9 => ((intro w hSw; (try dsimp only at hSw); go_simp; (try rw [if_neg (by omega)])); all_goals (with_reducible rfl))
            try simp only [Act.put, List.setIfInBounds_toArray, List.set_cons_zero, List.set_cons_succ]
            refine wpAnyH_take (i := 9) (oi := ?oi_k10) (v := ?v_k10) ?hi_k10 (by kernel_rfl) ?hf_k10 ?hr_k10 ?hQ_k10 (Or.inl ⟨?hw_k10, ?hy_k10⟩) (by assumption) ?rest_k10
            case hi_k10 => ((simp only [List.getElem?_toArray, List.getElem?_cons_succ, List.getElem?_cons_zero]); rfl)
            case hf_k10 => kernel_rfl
            case hr_k10 => kernel_rfl
            case hQ_k10 => exact fun _ _ _ h => h
            case hw_k10 => rfl
            case hy_k10 => ((intro w hSw; (try dsimp only at hSw); go_simp; (try rw [if_neg (by omega)])); all_goals (with_reducible rfl))
            try simp only [Act.put, List.setIfInBounds_toArray, List.set_cons_zero, List.set_cons_succ]
            refine wpAnyH_take (i := 10) (oi := ?oi_k11) (v := ?v_k11) ?hi_k11 (by kernel_rfl) ?hf_k11 ?hr_k11 ?hQ_k11 (Or.inl ⟨?hw_k11, ?hy_k11⟩) (by assumption) ?rest_k11
            case hi_k11 => ((simp only [List.getElem?_toArray, List.getElem?_cons_succ, List.getElem?_cons_zero]); rfl)
            case hf_k11 => kernel_rfl
            case hr_k11 => kernel_rfl
            case hQ_k11 => exact fun _ _ _ h => h
            case hw_k11 => rfl
            case hy_k11 => ((intro w hSw; (try dsimp only at hSw); go_simp; (try rw [if_neg (by omega)])); all_goals (with_reducible rfl))
            try simp only [Act.put, List.setIfInBounds_toArray, List.set_cons_zero, List.set_cons_succ]
            refine wpAnyH_take (i := 11) (oi := ?oi_k12) (v := ?v_k12) ?hi_k12 (by kernel_rfl) ?hf_k12 ?hr_k12 ?hQ_k12 (Or.inl ⟨?hw_k12, ?hy_k12⟩) (by assumption) ?rest_k12
            case hi_k12 => ((simp only [List.getElem?_toArray, List.getElem?_cons_succ, List.getElem?_cons_zero]); rfl)
            case hf_k12 => kernel_rfl
            case hr_k12 => kernel_rfl
            case hQ_k12 => exact fun _ _ _ h => h
            case hw_k12 => rfl
            case hy_k12 => ((intro w hSw; (try dsimp only at hSw); go_simp; (try rw [if_neg (by omega)])); all_goals (with_reducible rfl))
            try simp only [Act.put, List.setIfInBounds_toArray, List.set_cons_zero, List.set_cons_succ]
            refine wpAnyH_take (i := 12) (oi := ?oi_k13) (v := ?v_k13) ?hi_k13 (by kernel_rfl) ?hf_k13 ?hr_k13 ?hQ_k13 (Or.inl ⟨?hw_k13, ?hy_k13⟩) (by assumption) ?rest_k13
            case hi_k13 => ((simp only [List.getElem?_toArray, List.getElem?_cons_succ, List.getElem?_cons_zero]); rfl)
            case hf_k13 => kernel_rfl
            case hr_k13 => kernel_rfl
            case hQ_k13 => exact fun _ _ _ h => h
            case hw_k13 => rfl
            case hy_k13 => ((intro w hSw; (try dsimp only at hSw); go_simp; (try rw [if_neg (by omega)])); all_goals (with_reducible rfl))
            try simp only [Act.put, List.setIfInBounds_toArray, List.set_cons_zero, List.set_cons_succ]
            refine wpAnyH_take (i := 13) (oi := ?oi_k14) (v := ?v_k14) ?hi_k14 (by kernel_rfl) ?hf_k14 ?hr_k14 ?hQ_k14 (Or.inl ⟨?hw_k14, ?hy_k14⟩) (by assumption) ?rest_k14
            case hi_k14 => ((simp only [List.getElem?_toArray, List.getElem?_cons_succ, List.getElem?_cons_zero]); rfl)
            case hf_k14 => kernel_rfl
            case hr_k14 => kernel_rfl
            case hQ_k14 => exact fun _ _ _ h => h
            case hw_k14 => rfl
            case hy_k14 => ((intro w hSw; (try dsimp only at hSw); go_simp; (try rw [if_neg (by omega)])); all_goals (with_reducible rfl))
            try simp only [Act.put, List.setIfInBounds_toArray, List.set_cons_zero, List.set_cons_succ]
            generalize W5.drew = u0 at *
            refine wpAnyH_ready (rs := [14, 20]) (by kernel_rfl) (by simp) ?_
            refine AllReadyH.cons (o := ?o1_r41) ?hi_r41 (fun K hK => ?ra_r41) (AllReadyH.cons (o := ?o2_r41) ?hj_r41 (fun K hK => ?rb_r41) AllReadyH.nil)
            case hi_r41 => ((simp only [List.getElem?_toArray, List.getElem?_cons_succ, List.getElem?_cons_zero]); rfl)
            case hj_r41 => ((simp only [List.getElem?_toArray, List.getElem?_cons_succ, List.getElem?_cons_zero]); rfl)
            case ra_r41 =>
              obtain ⟨c9, W9, hrun9, hi9, hb9, -, -⟩ := conv_row X u0 (by omega)
              go_simp
              have hu9 := belStep hHeld hb9
              refine hK.out _ _ (by exact hu9) (fun hHeld => ?_)
              clear hK K hrun9 hu9
              try simp only [Act.put, List.setIfInBounds_toArray, List.set_cons_zero, List.set_cons_succ]
              clear hb9
              refine wpAnyH_ready (rs := [15, 20]) (by kernel_rfl) (by simp) ?_
              refine AllReadyH.cons (o := ?o1_r31) ?hi_r31 (fun K hK => ?ra_r31) (AllReadyH.cons (o := ?o2_r31) ?hj_r31 (fun K hK => ?rb_r31) AllReadyH.nil)
              case hi_r31 => ((simp only [List.getElem?_toArray, List.getElem?_cons_succ, List.getElem?_cons_zero]); rfl)
              case hj_r31 => ((simp only [List.getElem?_toArray, List.getElem?_cons_succ, List.getElem?_cons_zero]); rfl)
              case ra_r31 =>
                go_simp
                (go_at_call 16; (with_reducible refine (readC_no _ _ _ X _ _ _ (HEW.out _ hHeld) hi9 HX.out).mono ?_); rintro e wq ⟨rfl, hbq⟩)
                try go_simp
                have huq := belStep hHeld hbq
                refine hK.out _ _ (by exact huq) (fun hHeld => ?_)
                clear hK K hi9 huq
                try simp only [Act.put, List.setIfInBounds_toArray, List.set_cons_zero, List.set_cons_succ]
                clear hbq
                refine wpAnyH_take (i := 16) (oi := ?oi_k15) (v := ?v_k15) ?hi_k15 (by kernel_rfl) ?hf_k15 ?hr_k15 ?hQ_k15 (Or.inl ⟨?hw_k15, ?hy_k15⟩) (by assumption) ?rest_k15
                case hi_k15 => ((simp only [List.getElem?_toArray, List.getElem?_cons_succ, List.getElem?_cons_zero]); rfl)
                case hf_k15 => kernel_rfl
                case hr_k15 => kernel_rfl
                case hQ_k15 => exact fun _ _ _ h => h
                case hw_k15 => rfl
                case hy_k15 => ((intro w hSw; (try dsimp only at hSw); go_simp); all_goals (with_reducible rfl))
                try simp only [Act.put, List.setIfInBounds_toArray, List.set_cons_zero, List.set_cons_succ]
                refine wpAnyH_take (i := 17) (oi := ?oi_k16) (v := ?v_k16) ?hi_k16 (by kernel_rfl) ?hf_k16 ?hr_k16 ?hQ_k16 (Or.inl ⟨?hw_k16, ?hy_k16⟩) (by assumption) ?rest_k16
                case hi_k16 => ((simp only [List.getElem?_toArray, List.getElem?_cons_succ, List.getElem?_cons_zero]); rfl)
                case hf_k16 => kernel_rfl
                case hr_k16 => kernel_rfl
                case hQ_k16 => exact fun _ _ _ h => h
                case hw_k16 => rfl
                case hy_k16 => ((intro w hSw; (try dsimp only at hSw); go_simp); all_goals (with_reducible rfl))
                try simp only [Act.put, List.setIfInBounds_toArray, List.set_cons_zero, List.set_cons_succ]
                refine wpAnyH_take (i := 18) (oi := ?oi_k17) (v := ?v_k17) ?hi_k17 (by kernel_rfl) ?hf_k17 ?hr_k17 ?hQ_k17 (Or.inl ⟨?hw_k17, ?hy_k17⟩) (by assumption) ?rest_k17
                case hi_k17 => ((simp only [List.getElem?_toArray, List.getElem?_cons_succ, List.getElem?_cons_zero]); rfl)
                case hf_k17 => kernel_rfl
                case hr_k17 => kernel_rfl
                case hQ_k17 => exact fun _ _ _ h => h
                case hw_k17 => rfl
                case hy_k17 => ((intro w hSw; (try dsimp only at hSw); go_simp); all_goals (with_reducible rfl))
                try simp only [Act.put, List.setIfInBounds_toArray, List.set_cons_zero, List.set_cons_succ]
                refine wpAnyH_take (i := 19) (oi := ?oi_k18) (v := ?v_k18) ?hi_k18 (by kernel_rfl) ?hf_k18 ?hr_k18 ?hQ_k18 (Or.inl ⟨?hw_k18, ?hy_k18⟩) (by assumption) ?rest_k18
                case hi_k18 => ((simp only [List.getElem?_toArray, List.getElem?_cons_succ, List.getElem?_cons_zero]); rfl)
                case hf_k18 => kernel_rfl
                case hr_k18 => kernel_rfl
                case hQ_k18 => exact fun _ _ _ h => h
                case hw_k18 => rfl
                case hy_k18 => ((intro w hSw; (try dsimp only at hSw); go_simp); all_goals (with_reducible rfl))
                try simp only [Act.put, List.setIfInBounds_toArray, List.set_cons_zero, List.set_cons_succ]
                refine wpAnyH_ready (rs := [20]) (by kernel_rfl) (by simp) ?_
                refine AllReadyH.cons (o := ?o1_r22) ?hi_r22 (fun K hK => ?rest_r22) AllReadyH.nil
                case hi_r22 => ((simp only [List.getElem?_toArray, List.getElem?_cons_succ, List.getElem?_cons_zero]); rfl)
                have hg8 : W5.heap.size ≤ wq.heap.size := Below.size hHeld
                go_simp
                refine hK.out _ _ (by exact belAlloc hHeld _) (fun hHeld => ?_)
                clear hK K
                try simp only [Act.put, List.setIfInBounds_toArray, List.set_cons_zero, List.set_cons_succ]
                have hB8 : Blk (wq.alloc (.cells #[.int .i64 0, .int .i64 0, .int .i64 0, .int .i64 0, .int .i64 0, .int .i64 0, .slice none 0 0, .int .i64 0, .int .i64 0, .int .i64 0, .int .i64 0] 25)) wq.heap.size [.int .i64 0, .int .i64 0, .int .i64 0, .int .i64 0, .int .i64 0, .int .i64 0, .slice none 0 0, .int .i64 0, .int .i64 0, .int .i64 0, .int .i64 0] 25 := Blk.new wq [.int .i64 0, .int .i64 0, .int .i64 0, .int .i64 0, .int .i64 0, .int .i64 0, .slice none 0 0, .int .i64 0, .int .i64 0, .int .i64 0, .int .i64 0] 25
                have hal := belAlloc (Below.refl wq.heap.size wq) (.cells #[.int .i64 0, .int .i64 0, .int .i64 0, .int .i64 0, .int .i64 0, .int .i64 0, .slice none 0 0, .int .i64 0, .int .i64 0, .int .i64 0, .int .i64 0] 25)
                clear hal
                generalize wq.alloc (.cells #[.int .i64 0, .int .i64 0, .int .i64 0, .int .i64 0, .int .i64 0, .int .i64 0, .slice none 0 0, .int .i64 0, .int .i64 0, .int .i64 0, .int .i64 0] 25) = u15 at *
                generalize wq.heap.size = g8 at *
                have y0 := hB8.cell (j := 0) rfl
                have y1 := hB8.cell (j := 1) rfl
                have y2 := hB8.cell (j := 2) rfl
                have y3 := hB8.cell (j := 3) rfl
                have y4 := hB8.cell (j := 4) rfl
                have y5 := hB8.cell (j := 5) rfl
                have y6 := hB8.cell (j := 6) rfl
                have y7 := hB8.cell (j := 7) rfl
                have y8 := hB8.cell (j := 8) rfl
                have y9 := hB8.cell (j := 9) rfl
                have y10 := hB8.cell (j := 10) rfl
                have yf := hB8.frozen
                have hb16 := (belSet (belSet (belSet (belSet (belSet (belSet (belSet (belSet (belSet (belSet (belSet hHeld ⟨g8, 0, none⟩ (.int .i64 0) hg8) ⟨g8, 1, none⟩ (.int .i64 0) hg8) ⟨g8, 2, none⟩ (.int .i64 0) hg8) ⟨g8, 3, none⟩ (.int .i64 0) hg8) ⟨g8, 4, none⟩ (.int .i64 0) hg8) ⟨g8, 5, none⟩ (.int .i64 0) hg8) ⟨g8, 6, none⟩ (.slice none 0 0) hg8) ⟨g8, 7, none⟩ (.int .i64 0) hg8) ⟨g8, 8, none⟩ (.int .i64 0) hg8) ⟨g8, 9, none⟩ (.int .i64 0) hg8) ⟨g8, 10, none⟩ (.int .i64 0) hg8)
                have hR16 : Blk (((((((((((u15.setCell ⟨g8, 0, none⟩ (.int .i64 0)).setCell ⟨g8, 1, none⟩ (.int .i64 0)).setCell ⟨g8, 2, none⟩ (.int .i64 0)).setCell ⟨g8, 3, none⟩ (.int .i64 0)).setCell ⟨g8, 4, none⟩ (.int .i64 0)).setCell ⟨g8, 5, none⟩ (.int .i64 0)).setCell ⟨g8, 6, none⟩ (.slice none 0 0)).setCell ⟨g8, 7, none⟩ (.int .i64 0)).setCell ⟨g8, 8, none⟩ (.int .i64 0)).setCell ⟨g8, 9, none⟩ (.int .i64 0)).setCell ⟨g8, 10, none⟩ (.int .i64 0)) g8 [.int .i64 0, .int .i64 0, .int .i64 0, .int .i64 0, .int .i64 0, .int .i64 0, .slice none 0 0, .int .i64 0, .int .i64 0, .int .i64 0, .int .i64 0] 25 := (((((((((((hB8.set 0 (.int .i64 0)).set 1 (.int .i64 0)).set 2 (.int .i64 0)).set 3 (.int .i64 0)).set 4 (.int .i64 0)).set 5 (.int .i64 0)).set 6 (.slice none 0 0)).set 7 (.int .i64 0)).set 8 (.int .i64 0)).set 9 (.int .i64 0)).set 10 (.int .i64 0))
                refine wpAnyH_ready (rs := [21]) (by kernel_rfl) (by simp) ?_
                refine AllReadyH.cons (o := ?o1_k19) ?hi_k19 (fun K hK => ?rest_k19) AllReadyH.nil
                case hi_k19 => ((simp only [List.getElem?_toArray, List.getElem?_cons_succ, List.getElem?_cons_zero]); rfl)
                go_simp
                refine hK.out _ _ (by exact hb16) (fun hHeld => ?_)
                clear hK K
                try simp only [Act.put, List.setIfInBounds_toArray, List.set_cons_zero, List.set_cons_succ]
                refine wpAnyH_take (i := 22) (oi := ?oi_k20) (v := ?v_k20) ?hi_k20 (by kernel_rfl) ?hf_k20 ?hr_k20 ?hQ_k20 (Or.inl ⟨?hw_k20, ?hy_k20⟩) (by assumption) ?rest_k20
                case hi_k20 => ((simp only [List.getElem?_toArray, List.getElem?_cons_succ, List.getElem?_cons_zero]); rfl)
                case hf_k20 => kernel_rfl
                case hr_k20 => kernel_rfl
                case hQ_k20 => exact fun _ _ _ h => h
                case hw_k20 => rfl
                case hy_k20 => ((intro w hSw; (try dsimp only at hSw); go_simp); all_goals (with_reducible rfl))
                try simp only [Act.put, List.setIfInBounds_toArray, List.set_cons_zero, List.set_cons_succ]
                refine wpAnyH_take (i := 23) (oi := ?oi_k21) (v := ?v_k21) ?hi_k21 (by kernel_rfl) ?hf_k21 ?hr_k21 ?hQ_k21 (Or.inl ⟨?hw_k21, ?hy_k21⟩) (by assumption) ?rest_k21
                case hi_k21 => ((simp only [List.getElem?_toArray, List.getElem?_cons_succ, List.getElem?_cons_zero]); rfl)
                case hf_k21 => kernel_rfl
                case hr_k21 => kernel_rfl
                case hQ_k21 => exact fun _ _ _ h => h
                case hw_k21 => rfl
                case hy_k21 => ((intro w hSw; (try dsimp only at hSw); go_simp); all_goals (with_reducible rfl))
                try simp only [Act.put, List.setIfInBounds_toArray, List.set_cons_zero, List.set_cons_succ]
                refine wpAnyH_done (by kernel_rfl) ?_ _
                clear hHeld hB8 yf y0 y1 y2 y3 y4 y5 y6 y7 y8 y9 y10
                generalize ((((((((((u15.setCell ⟨g8, 0, none⟩ (.int .i64 0)).setCell ⟨g8, 1, none⟩ (.int .i64 0)).setCell ⟨g8, 2, none⟩ (.int .i64 0)).setCell ⟨g8, 3, none⟩ (.int .i64 0)).setCell ⟨g8, 4, none⟩ (.int .i64 0)).setCell ⟨g8, 5, none⟩ (.int .i64 0)).setCell ⟨g8, 6, none⟩ (.slice none 0 0)).setCell ⟨g8, 7, none⟩ (.int .i64 0)).setCell ⟨g8, 8, none⟩ (.int .i64 0)).setCell ⟨g8, 9, none⟩ (.int .i64 0)).setCell ⟨g8, 10, none⟩ (.int .i64 0) = W6 at *
                try clear hbel
                have hbel := hb16
                have HBxx := Lib.hid hR16
                clear hb16 hR16
                clear hwb hb0 hb9 hp0 hp1 hbt wi3 hws h10s
                have hne : (((m : Int) + 1) == ((m : Int) + 1)) = true := by simp
                go_upto_region 20 with fail
                clear HBxx
                have hw := Below.refl W5.heap.size W5
                have dd0 : (W6.alloc (.cells #[.int .i64 0, .int .i64 c.k1, .int .i64 c.k2, .int .i64 c.a0, .int .i64 0, .int .i64 c.a2, .slice ta c.T.length tc, .int .i64 c.per, .int .i64 c.ret, .int .i64 c.age, .int .i64 c.dead] 25)).cell? ⟨W6.heap.size, 0, none⟩ = some (.int .i64 0) := by first | (simp; done) | (rw [World.cell?_alloc_at _ _ _ _ (by simp)]; rfl) | (rw [World.cell?_alloc_past _ _ _ (by simp <;> omega), World.cell?_alloc_at _ _ _ _ (by simp)]; rfl) | (rw [World.cell?_alloc_past _ _ _ (by simp <;> omega), World.cell?_alloc_past _ _ _ (by simp <;> omega), World.cell?_alloc_at _ _ _ _ (by simp)]; rfl)
                have dd1 : (W6.alloc (.cells #[.int .i64 0, .int .i64 c.k1, .int .i64 c.k2, .int .i64 c.a0, .int .i64 0, .int .i64 c.a2, .slice ta c.T.length tc, .int .i64 c.per, .int .i64 c.ret, .int .i64 c.age, .int .i64 c.dead] 25)).cell? ⟨W6.heap.size, 1, none⟩ = some (.int .i64 c.k1) := by first | (simp; done) | (rw [World.cell?_alloc_at _ _ _ _ (by simp)]; rfl) | (rw [World.cell?_alloc_past _ _ _ (by simp <;> omega), World.cell?_alloc_at _ _ _ _ (by simp)]; rfl) | (rw [World.cell?_alloc_past _ _ _ (by simp <;> omega), World.cell?_alloc_past _ _ _ (by simp <;> omega), World.cell?_alloc_at _ _ _ _ (by simp)]; rfl)
                have dd2 : (W6.alloc (.cells #[.int .i64 0, .int .i64 c.k1, .int .i64 c.k2, .int .i64 c.a0, .int .i64 0, .int .i64 c.a2, .slice ta c.T.length tc, .int .i64 c.per, .int .i64 c.ret, .int .i64 c.age, .int .i64 c.dead] 25)).cell? ⟨W6.heap.size, 2, none⟩ = some (.int .i64 c.k2) := by first | (simp; done) | (rw [World.cell?_alloc_at _ _ _ _ (by simp)]; rfl) | (rw [World.cell?_alloc_past _ _ _ (by simp <;> omega), World.cell?_alloc_at _ _ _ _ (by simp)]; rfl) | (rw [World.cell?_alloc_past _ _ _ (by simp <;> omega), World.cell?_alloc_past _ _ _ (by simp <;> omega), World.cell?_alloc_at _ _ _ _ (by simp)]; rfl)
                have dd3 : (W6.alloc (.cells #[.int .i64 0, .int .i64 c.k1, .int .i64 c.k2, .int .i64 c.a0, .int .i64 0, .int .i64 c.a2, .slice ta c.T.length tc, .int .i64 c.per, .int .i64 c.ret, .int .i64 c.age, .int .i64 c.dead] 25)).cell? ⟨W6.heap.size, 3, none⟩ = some (.int .i64 c.a0) := by first | (simp; done) | (rw [World.cell?_alloc_at _ _ _ _ (by simp)]; rfl) | (rw [World.cell?_alloc_past _ _ _ (by simp <;> omega), World.cell?_alloc_at _ _ _ _ (by simp)]; rfl) | (rw [World.cell?_alloc_past _ _ _ (by simp <;> omega), World.cell?_alloc_past _ _ _ (by simp <;> omega), World.cell?_alloc_at _ _ _ _ (by simp)]; rfl)
                have dd4 : (W6.alloc (.cells #[.int .i64 0, .int .i64 c.k1, .int .i64 c.k2, .int .i64 c.a0, .int .i64 0, .int .i64 c.a2, .slice ta c.T.length tc, .int .i64 c.per, .int .i64 c.ret, .int .i64 c.age, .int .i64 c.dead] 25)).cell? ⟨W6.heap.size, 4, none⟩ = some (.int .i64 0) := by first | (simp; done) | (rw [World.cell?_alloc_at _ _ _ _ (by simp)]; rfl) | (rw [World.cell?_alloc_past _ _ _ (by simp <;> omega), World.cell?_alloc_at _ _ _ _ (by simp)]; rfl) | (rw [World.cell?_alloc_past _ _ _ (by simp <;> omega), World.cell?_alloc_past _ _ _ (by simp <;> omega), World.cell?_alloc_at _ _ _ _ (by simp)]; rfl)
                have dd5 : (W6.alloc (.cells #[.int .i64 0, .int .i64 c.k1, .int .i64 c.k2, .int .i64 c.a0, .int .i64 0, .int .i64 c.a2, .slice ta c.T.length tc, .int .i64 c.per, .int .i64 c.ret, .int .i64 c.age, .int .i64 c.dead] 25)).cell? ⟨W6.heap.size, 5, none⟩ = some (.int .i64 c.a2) := by first | (simp; done) | (rw [World.cell?_alloc_at _ _ _ _ (by simp)]; rfl) | (rw [World.cell?_alloc_past _ _ _ (by simp <;> omega), World.cell?_alloc_at _ _ _ _ (by simp)]; rfl) | (rw [World.cell?_alloc_past _ _ _ (by simp <;> omega), World.cell?_alloc_past _ _ _ (by simp <;> omega), World.cell?_alloc_at _ _ _ _ (by simp)]; rfl)
                have dd6 : (W6.alloc (.cells #[.int .i64 0, .int .i64 c.k1, .int .i64 c.k2, .int .i64 c.a0, .int .i64 0, .int .i64 c.a2, .slice ta c.T.length tc, .int .i64 c.per, .int .i64 c.ret, .int .i64 c.age, .int .i64 c.dead] 25)).cell? ⟨W6.heap.size, 6, none⟩ = some (.slice ta c.T.length tc) := by first | (simp; done) | (rw [World.cell?_alloc_at _ _ _ _ (by simp)]; rfl) | (rw [World.cell?_alloc_past _ _ _ (by simp <;> omega), World.cell?_alloc_at _ _ _ _ (by simp)]; rfl) | (rw [World.cell?_alloc_past _ _ _ (by simp <;> omega), World.cell?_alloc_past _ _ _ (by simp <;> omega), World.cell?_alloc_at _ _ _ _ (by simp)]; rfl)
                have dd7 : (W6.alloc (.cells #[.int .i64 0, .int .i64 c.k1, .int .i64 c.k2, .int .i64 c.a0, .int .i64 0, .int .i64 c.a2, .slice ta c.T.length tc, .int .i64 c.per, .int .i64 c.ret, .int .i64 c.age, .int .i64 c.dead] 25)).cell? ⟨W6.heap.size, 7, none⟩ = some (.int .i64 c.per) := by first | (simp; done) | (rw [World.cell?_alloc_at _ _ _ _ (by simp)]; rfl) | (rw [World.cell?_alloc_past _ _ _ (by simp <;> omega), World.cell?_alloc_at _ _ _ _ (by simp)]; rfl) | (rw [World.cell?_alloc_past _ _ _ (by simp <;> omega), World.cell?_alloc_past _ _ _ (by simp <;> omega), World.cell?_alloc_at _ _ _ _ (by simp)]; rfl)
                have dd8 : (W6.alloc (.cells #[.int .i64 0, .int .i64 c.k1, .int .i64 c.k2, .int .i64 c.a0, .int .i64 0, .int .i64 c.a2, .slice ta c.T.length tc, .int .i64 c.per, .int .i64 c.ret, .int .i64 c.age, .int .i64 c.dead] 25)).cell? ⟨W6.heap.size, 8, none⟩ = some (.int .i64 c.ret) := by first | (simp; done) | (rw [World.cell?_alloc_at _ _ _ _ (by simp)]; rfl) | (rw [World.cell?_alloc_past _ _ _ (by simp <;> omega), World.cell?_alloc_at _ _ _ _ (by simp)]; rfl) | (rw [World.cell?_alloc_past _ _ _ (by simp <;> omega), World.cell?_alloc_past _ _ _ (by simp <;> omega), World.cell?_alloc_at _ _ _ _ (by simp)]; rfl)
                have dd9 : (W6.alloc (.cells #[.int .i64 0, .int .i64 c.k1, .int .i64 c.k2, .int .i64 c.a0, .int .i64 0, .int .i64 c.a2, .slice ta c.T.length tc, .int .i64 c.per, .int .i64 c.ret, .int .i64 c.age, .int .i64 c.dead] 25)).cell? ⟨W6.heap.size, 9, none⟩ = some (.int .i64 c.age) := by first | (simp; done) | (rw [World.cell?_alloc_at _ _ _ _ (by simp)]; rfl) | (rw [World.cell?_alloc_past _ _ _ (by simp <;> omega), World.cell?_alloc_at _ _ _ _ (by simp)]; rfl) | (rw [World.cell?_alloc_past _ _ _ (by simp <;> omega), World.cell?_alloc_past _ _ _ (by simp <;> omega), World.cell?_alloc_at _ _ _ _ (by simp)]; rfl)
                have dd10 : (W6.alloc (.cells #[.int .i64 0, .int .i64 c.k1, .int .i64 c.k2, .int .i64 c.a0, .int .i64 0, .int .i64 c.a2, .slice ta c.T.length tc, .int .i64 c.per, .int .i64 c.ret, .int .i64 c.age, .int .i64 c.dead] 25)).cell? ⟨W6.heap.size, 10, none⟩ = some (.int .i64 c.dead) := by first | (simp; done) | (rw [World.cell?_alloc_at _ _ _ _ (by simp)]; rfl) | (rw [World.cell?_alloc_past _ _ _ (by simp <;> omega), World.cell?_alloc_at _ _ _ _ (by simp)]; rfl) | (rw [World.cell?_alloc_past _ _ _ (by simp <;> omega), World.cell?_alloc_past _ _ _ (by simp <;> omega), World.cell?_alloc_at _ _ _ _ (by simp)]; rfl)
                have hb2 := (by repeat (first | exact hbel | refine belAlloc ?_ _ | refine belDrew ?_ | refine belSet ?_ _ _ (by simp)) : Below W5.heap.size W5 (W6.alloc (.cells #[.int .i64 0, .int .i64 c.k1, .int .i64 c.k2, .int .i64 c.a0, .int .i64 0, .int .i64 c.a2, .slice ta c.T.length tc, .int .i64 c.per, .int .i64 c.ret, .int .i64 c.age, .int .i64 c.dead] 25)))
                replace hw := belStep hw hb2
                clear hb2 hbel
                generalize W6.alloc (.cells #[.int .i64 0, .int .i64 c.k1, .int .i64 c.k2, .int .i64 c.a0, .int .i64 0, .int .i64 c.a2, .slice ta c.T.length tc, .int .i64 c.per, .int .i64 c.ret, .int .i64 c.age, .int .i64 c.dead] 25) = W7 at *
                replace dd0 := keep dd0
                replace dd1 := keep dd1
                replace dd2 := keep dd2
                replace dd3 := keep dd3
                replace dd4 := keep dd4
                replace dd5 := keep dd5
                replace dd6 := keep dd6
                replace dd7 := keep dd7
                replace dd8 := keep dd8
                replace dd9 := keep dd9
                replace dd10 := keep dd10
                generalize W6.heap.size = d7 at *
                have hbel : Below W7.heap.size W7 W7 := Below.refl _ _
                clear W6
                have HW7 := Lib.hid (belStep HW5.out hw)
                clear hw
                go_upto_region 21 with (first | (go_at_call 15; (with_reducible refine (CD.out _ (belStep HW7.out hbel)).mono ?_); rintro e wp ⟨rfl, hbp⟩; obtain ⟨jc, W8, hrun, hji, hjb, -, -⟩ := conv_row J2 wp (by have := HD2.out; omega); have hb8 := belStep (belStep hbel hbp) hjb; have HB8 := Lib.hid hb8; have HJI := Lib.hid hji; have HEE := Lib.hid (HE1.out.later (belStep HW7.out hb8)); clear hji hjb hb8 hbp hbel) | (go_at_call 16; (with_reducible refine (readC_no _ _ _ J2 _ _ W8 HEE.out HJI.out HD1.out).mono ?_); rintro e wm ⟨rfl, hbm⟩; have hbel := belStep HB8.out hbm; clear hbm))
                clear hrun
                go_wp2
                go_ret
                exact ⟨rfl, belStep HW.out (belStep HW7.out (belAlloc hbel _))⟩
              case rb_r31 =>
                have hg8 : W5.heap.size ≤ W9.heap.size := Below.size hHeld
                go_simp
                refine hK.out _ _ (by exact belAlloc hHeld _) (fun hHeld => ?_)
                clear hK K
                try simp only [Act.put, List.setIfInBounds_toArray, List.set_cons_zero, List.set_cons_succ]
                have hB8 : Blk (W9.alloc (.cells #[.int .i64 0, .int .i64 0, .int .i64 0, .int .i64 0, .int .i64 0, .int .i64 0, .slice none 0 0, .int .i64 0, .int .i64 0, .int .i64 0, .int .i64 0] 25)) W9.heap.size [.int .i64 0, .int .i64 0, .int .i64 0, .int .i64 0, .int .i64 0, .int .i64 0, .slice none 0 0, .int .i64 0, .int .i64 0, .int .i64 0, .int .i64 0] 25 := Blk.new W9 [.int .i64 0, .int .i64 0, .int .i64 0, .int .i64 0, .int .i64 0, .int .i64 0, .slice none 0 0, .int .i64 0, .int .i64 0, .int .i64 0, .int .i64 0] 25
                have hal := belAlloc (Below.refl W9.heap.size W9) (.cells #[.int .i64 0, .int .i64 0, .int .i64 0, .int .i64 0, .int .i64 0, .int .i64 0, .slice none 0 0, .int .i64 0, .int .i64 0, .int .i64 0, .int .i64 0] 25)
                replace hi9 := Ints.later hi9 hal
                clear hal
                generalize W9.alloc (.cells #[.int .i64 0, .int .i64 0, .int .i64 0, .int .i64 0, .int .i64 0, .int .i64 0, .slice none 0 0, .int .i64 0, .int .i64 0, .int .i64 0, .int .i64 0] 25) = u15 at *
                generalize W9.heap.size = g8 at *
                refine wpAnyH_ready (rs := [15]) (by kernel_rfl) (by simp) ?_
                refine AllReadyH.cons (o := ?o1_r30) ?hi_r30 (fun K hK => ?rest_r30) AllReadyH.nil
                case hi_r30 => ((simp only [List.getElem?_toArray, List.getElem?_cons_succ, List.getElem?_cons_zero]); rfl)
                go_simp
                (go_at_call 16; (with_reducible refine (readC_no _ _ _ X _ _ _ (HEW.out _ hHeld) hi9 HX.out).mono ?_); rintro e wq ⟨rfl, hbq⟩)
                try go_simp
                have huq := belStep hHeld hbq
                refine hK.out _ _ (by exact huq) (fun hHeld => ?_)
                clear hK K hi9 huq
                try simp only [Act.put, List.setIfInBounds_toArray, List.set_cons_zero, List.set_cons_succ]
                replace hB8 := hB8.later hbq
                clear hbq
                refine wpAnyH_take (i := 16) (oi := ?oi_k23) (v := ?v_k23) ?hi_k23 (by kernel_rfl) ?hf_k23 ?hr_k23 ?hQ_k23 (Or.inl ⟨?hw_k23, ?hy_k23⟩) (by assumption) ?rest_k23
                case hi_k23 => ((simp only [List.getElem?_toArray, List.getElem?_cons_succ, List.getElem?_cons_zero]); rfl)
                case hf_k23 => kernel_rfl
                case hr_k23 => kernel_rfl
                case hQ_k23 => exact fun _ _ _ h => h
                case hw_k23 => rfl
                case hy_k23 => ((intro w hSw; (try dsimp only at hSw); go_simp); all_goals (with_reducible rfl))
                try simp only [Act.put, List.setIfInBounds_toArray, List.set_cons_zero, List.set_cons_succ]
                refine wpAnyH_take (i := 17) (oi := ?oi_k24) (v := ?v_k24) ?hi_k24 (by kernel_rfl) ?hf_k24 ?hr_k24 ?hQ_k24 (Or.inl ⟨?hw_k24, ?hy_k24⟩) (by assumption) ?rest_k24
                case hi_k24 => ((simp only [List.getElem?_toArray, List.getElem?_cons_succ, List.getElem?_cons_zero]); rfl)
                case hf_k24 => kernel_rfl
                case hr_k24 => kernel_rfl
                case hQ_k24 => exact fun _ _ _ h => h
                case hw_k24 => rfl
                case hy_k24 => ((intro w hSw; (try dsimp only at hSw); go_simp); all_goals (with_reducible rfl))
                try simp only [Act.put, List.setIfInBounds_toArray, List.set_cons_zero, List.set_cons_succ]
                refine wpAnyH_take (i := 18) (oi := ?oi_k25) (v := ?v_k25) ?hi_k25 (by kernel_rfl) ?hf_k25 ?hr_k25 ?hQ_k25 (Or.inl ⟨?hw_k25, ?hy_k25⟩) (by assumption) ?rest_k25
                case hi_k25 => ((simp only [List.getElem?_toArray, List.getElem?_cons_succ, List.getElem?_cons_zero]); rfl)
                case hf_k25 => kernel_rfl
                case hr_k25 => kernel_rfl
                case hQ_k25 => exact fun _ _ _ h => h
                case hw_k25 => rfl
                case hy_k25 => ((intro w hSw; (try dsimp only at hSw); go_simp); all_goals (with_reducible rfl))
                try simp only [Act.put, List.setIfInBounds_toArray, List.set_cons_zero, List.set_cons_succ]
                refine wpAnyH_take (i := 19) (oi := ?oi_k26) (v := ?v_k26) ?hi_k26 (by kernel_rfl) ?hf_k26 ?hr_k26 ?hQ_k26 (Or.inl ⟨?hw_k26, ?hy_k26⟩) (by assumption) ?rest_k26
                case hi_k26 => ((simp only [List.getElem?_toArray, List.getElem?_cons_succ, List.getElem?_cons_zero]); rfl)
                case hf_k26 => kernel_rfl
                case hr_k26 => kernel_rfl
                case hQ_k26 => exact fun _ _ _ h => h
                case hw_k26 => rfl
                case hy_k26 => ((intro w hSw; (try dsimp only at hSw); go_simp); all_goals (with_reducible rfl))
                try simp only [Act.put, List.setIfInBounds_toArray, List.set_cons_zero, List.set_cons_succ]
                have y0 := hB8.cell (j := 0) rfl
                have y1 := hB8.cell (j := 1) rfl
                have y2 := hB8.cell (j := 2) rfl
                have y3 := hB8.cell (j := 3) rfl
                have y4 := hB8.cell (j := 4) rfl
                have y5 := hB8.cell (j := 5) rfl
                have y6 := hB8.cell (j := 6) rfl
                have y7 := hB8.cell (j := 7) rfl
                have y8 := hB8.cell (j := 8) rfl
                have y9 := hB8.cell (j := 9) rfl
                have y10 := hB8.cell (j := 10) rfl
                have yf := hB8.frozen
                have hb16 := (belSet (belSet (belSet (belSet (belSet (belSet (belSet (belSet (belSet (belSet (belSet hHeld ⟨g8, 0, none⟩ (.int .i64 0) hg8) ⟨g8, 1, none⟩ (.int .i64 0) hg8) ⟨g8, 2, none⟩ (.int .i64 0) hg8) ⟨g8, 3, none⟩ (.int .i64 0) hg8) ⟨g8, 4, none⟩ (.int .i64 0) hg8) ⟨g8, 5, none⟩ (.int .i64 0) hg8) ⟨g8, 6, none⟩ (.slice none 0 0) hg8) ⟨g8, 7, none⟩ (.int .i64 0) hg8) ⟨g8, 8, none⟩ (.int .i64 0) hg8) ⟨g8, 9, none⟩ (.int .i64 0) hg8) ⟨g8, 10, none⟩ (.int .i64 0) hg8)
                have hR16 : Blk (((((((((((wq.setCell ⟨g8, 0, none⟩ (.int .i64 0)).setCell ⟨g8, 1, none⟩ (.int .i64 0)).setCell ⟨g8, 2, none⟩ (.int .i64 0)).setCell ⟨g8, 3, none⟩ (.int .i64 0)).setCell ⟨g8, 4, none⟩ (.int .i64 0)).setCell ⟨g8, 5, none⟩ (.int .i64 0)).setCell ⟨g8, 6, none⟩ (.slice none 0 0)).setCell ⟨g8, 7, none⟩ (.int .i64 0)).setCell ⟨g8, 8, none⟩ (.int .i64 0)).setCell ⟨g8, 9, none⟩ (.int .i64 0)).setCell ⟨g8, 10, none⟩ (.int .i64 0)) g8 [.int .i64 0, .int .i64 0, .int .i64 0, .int .i64 0, .int .i64 0, .int .i64 0, .slice none 0 0, .int .i64 0, .int .i64 0, .int .i64 0, .int .i64 0] 25 := (((((((((((hB8.set 0 (.int .i64 0)).set 1 (.int .i64 0)).set 2 (.int .i64 0)).set 3 (.int .i64 0)).set 4 (.int .i64 0)).set 5 (.int .i64 0)).set 6 (.slice none 0 0)).set 7 (.int .i64 0)).set 8 (.int .i64 0)).set 9 (.int .i64 0)).set 10 (.int .i64 0))
                refine wpAnyH_ready (rs := [21]) (by kernel_rfl) (by simp) ?_
                refine AllReadyH.cons (o := ?o1_k27) ?hi_k27 (fun K hK => ?rest_k27) AllReadyH.nil
                case hi_k27 => ((simp only [List.getElem?_toArray, List.getElem?_cons_succ, List.getElem?_cons_zero]); rfl)
                go_simp
                refine hK.out _ _ (by exact hb16) (fun hHeld => ?_)
                clear hK K
                try simp only [Act.put, List.setIfInBounds_toArray, List.set_cons_zero, List.set_cons_succ]
                refine wpAnyH_take (i := 22) (oi := ?oi_k28) (v := ?v_k28) ?hi_k28 (by kernel_rfl) ?hf_k28 ?hr_k28 ?hQ_k28 (Or.inl ⟨?hw_k28, ?hy_k28⟩) (by assumption) ?rest_k28
                case hi_k28 => ((simp only [List.getElem?_toArray, List.getElem?_cons_succ, List.getElem?_cons_zero]); rfl)
                case hf_k28 => kernel_rfl
                case hr_k28 => kernel_rfl
                case hQ_k28 => exact fun _ _ _ h => h
                case hw_k28 => rfl
                case hy_k28 => ((intro w hSw; (try dsimp only at hSw); go_simp); all_goals (with_reducible rfl))
                try simp only [Act.put, List.setIfInBounds_toArray, List.set_cons_zero, List.set_cons_succ]
                refine wpAnyH_take (i := 23) (oi := ?oi_k29) (v := ?v_k29) ?hi_k29 (by kernel_rfl) ?hf_k29 ?hr_k29 ?hQ_k29 (Or.inl ⟨?hw_k29, ?hy_k29⟩) (by assumption) ?rest_k29
                case hi_k29 => ((simp only [List.getElem?_toArray, List.getElem?_cons_succ, List.getElem?_cons_zero]); rfl)
                case hf_k29 => kernel_rfl
                case hr_k29 => kernel_rfl
                case hQ_k29 => exact fun _ _ _ h => h
                case hw_k29 => rfl
                case hy_k29 => ((intro w hSw; (try dsimp only at hSw); go_simp); all_goals (with_reducible rfl))
                try simp only [Act.put, List.setIfInBounds_toArray, List.set_cons_zero, List.set_cons_succ]
                refine wpAnyH_done (by kernel_rfl) ?_ _
                clear hHeld hB8 yf y0 y1 y2 y3 y4 y5 y6 y7 y8 y9 y10
                generalize ((((((((((wq.setCell ⟨g8, 0, none⟩ (.int .i64 0)).setCell ⟨g8, 1, none⟩ (.int .i64 0)).setCell ⟨g8, 2, none⟩ (.int .i64 0)).setCell ⟨g8, 3, none⟩ (.int .i64 0)).setCell ⟨g8, 4, none⟩ (.int .i64 0)).setCell ⟨g8, 5, none⟩ (.int .i64 0)).setCell ⟨g8, 6, none⟩ (.slice none 0 0)).setCell ⟨g8, 7, none⟩ (.int .i64 0)).setCell ⟨g8, 8, none⟩ (.int .i64 0)).setCell ⟨g8, 9, none⟩ (.int .i64 0)).setCell ⟨g8, 10, none⟩ (.int .i64 0) = W6 at *
                try clear hbel
                have hbel := hb16
                have HBxx := Lib.hid hR16
                clear hb16 hR16
                clear hwb hb0 hb9 hp0 hp1 hbt wi3 hws h10s
                have hne : (((m : Int) + 1) == ((m : Int) + 1)) = true := by simp
                go_upto_region 20 with fail
                clear HBxx
                have hw := Below.refl W5.heap.size W5
                have dd0 : (W6.alloc (.cells #[.int .i64 0, .int .i64 c.k1, .int .i64 c.k2, .int .i64 c.a0, .int .i64 0, .int .i64 c.a2, .slice ta c.T.length tc, .int .i64 c.per, .int .i64 c.ret, .int .i64 c.age, .int .i64 c.dead] 25)).cell? ⟨W6.heap.size, 0, none⟩ = some (.int .i64 0) := by first | (simp; done) | (rw [World.cell?_alloc_at _ _ _ _ (by simp)]; rfl) | (rw [World.cell?_alloc_past _ _ _ (by simp <;> omega), World.cell?_alloc_at _ _ _ _ (by simp)]; rfl) | (rw [World.cell?_alloc_past _ _ _ (by simp <;> omega), World.cell?_alloc_past _ _ _ (by simp <;> omega), World.cell?_alloc_at _ _ _ _ (by simp)]; rfl)
                have dd1 : (W6.alloc (.cells #[.int .i64 0, .int .i64 c.k1, .int .i64 c.k2, .int .i64 c.a0, .int .i64 0, .int .i64 c.a2, .slice ta c.T.length tc, .int .i64 c.per, .int .i64 c.ret, .int .i64 c.age, .int .i64 c.dead] 25)).cell? ⟨W6.heap.size, 1, none⟩ = some (.int .i64 c.k1) := by first | (simp; done) | (rw [World.cell?_alloc_at _ _ _ _ (by simp)]; rfl) | (rw [World.cell?_alloc_past _ _ _ (by simp <;> omega), World.cell?_alloc_at _ _ _ _ (by simp)]; rfl) | (rw [World.cell?_alloc_past _ _ _ (by simp <;> omega), World.cell?_alloc_past _ _ _ (by simp <;> omega), World.cell?_alloc_at _ _ _ _ (by simp)]; rfl)
                have dd2 : (W6.alloc (.cells #[.int .i64 0, .int .i64 c.k1, .int .i64 c.k2, .int .i64 c.a0, .int .i64 0, .int .i64 c.a2, .slice ta c.T.length tc, .int .i64 c.per, .int .i64 c.ret, .int .i64 c.age, .int .i64 c.dead] 25)).cell? ⟨W6.heap.size, 2, none⟩ = some (.int .i64 c.k2) := by first | (simp; done) | (rw [World.cell?_alloc_at _ _ _ _ (by simp)]; rfl) | (rw [World.cell?_alloc_past _ _ _ (by simp <;> omega), World.cell?_alloc_at _ _ _ _ (by simp)]; rfl) | (rw [World.cell?_alloc_past _ _ _ (by simp <;> omega), World.cell?_alloc_past _ _ _ (by simp <;> omega), World.cell?_alloc_at _ _ _ _ (by simp)]; rfl)
                have dd3 : (W6.alloc (.cells #[.int .i64 0, .int .i64 c.k1, .int .i64 c.k2, .int .i64 c.a0, .int .i64 0, .int .i64 c.a2, .slice ta c.T.length tc, .int .i64 c.per, .int .i64 c.ret, .int .i64 c.age, .int .i64 c.dead] 25)).cell? ⟨W6.heap.size, 3, none⟩ = some (.int .i64 c.a0) := by first | (simp; done) | (rw [World.cell?_alloc_at _ _ _ _ (by simp)]; rfl) | (rw [World.cell?_alloc_past _ _ _ (by simp <;> omega), World.cell?_alloc_at _ _ _ _ (by simp)]; rfl) | (rw [World.cell?_alloc_past _ _ _ (by simp <;> omega), World.cell?_alloc_past _ _ _ (by simp <;> omega), World.cell?_alloc_at _ _ _ _ (by simp)]; rfl)
                have dd4 : (W6.alloc (.cells #[.int .i64 0, .int .i64 c.k1, .int .i64 c.k2, .int .i64 c.a0, .int .i64 0, .int .i64 c.a2, .slice ta c.T.length tc, .int .i64 c.per, .int .i64 c.ret, .int .i64 c.age, .int .i64 c.dead] 25)).cell? ⟨W6.heap.size, 4, none⟩ = some (.int .i64 0) := by first | (simp; done) | (rw [World.cell?_alloc_at _ _ _ _ (by simp)]; rfl) | (rw [World.cell?_alloc_past _ _ _ (by simp <;> omega), World.cell?_alloc_at _ _ _ _ (by simp)]; rfl) | (rw [World.cell?_alloc_past _ _ _ (by simp <;> omega), World.cell?_alloc_past _ _ _ (by simp <;> omega), World.cell?_alloc_at _ _ _ _ (by simp)]; rfl)
                have dd5 : (W6.alloc (.cells #[.int .i64 0, .int .i64 c.k1, .int .i64 c.k2, .int .i64 c.a0, .int .i64 0, .int .i64 c.a2, .slice ta c.T.length tc, .int .i64 c.per, .int .i64 c.ret, .int .i64 c.age, .int .i64 c.dead] 25)).cell? ⟨W6.heap.size, 5, none⟩ = some (.int .i64 c.a2) := by first | (simp; done) | (rw [World.cell?_alloc_at _ _ _ _ (by simp)]; rfl) | (rw [World.cell?_alloc_past _ _ _ (by simp <;> omega), World.cell?_alloc_at _ _ _ _ (by simp)]; rfl) | (rw [World.cell?_alloc_past _ _ _ (by simp <;> omega), World.cell?_alloc_past _ _ _ (by simp <;> omega), World.cell?_alloc_at _ _ _ _ (by simp)]; rfl)
                have dd6 : (W6.alloc (.cells #[.int .i64 0, .int .i64 c.k1, .int .i64 c.k2, .int .i64 c.a0, .int .i64 0, .int .i64 c.a2, .slice ta c.T.length tc, .int .i64 c.per, .int .i64 c.ret, .int .i64 c.age, .int .i64 c.dead] 25)).cell? ⟨W6.heap.size, 6, none⟩ = some (.slice ta c.T.length tc) := by first | (simp; done) | (rw [World.cell?_alloc_at _ _ _ _ (by simp)]; rfl) | (rw [World.cell?_alloc_past _ _ _ (by simp <;> omega), World.cell?_alloc_at _ _ _ _ (by simp)]; rfl) | (rw [World.cell?_alloc_past _ _ _ (by simp <;> omega), World.cell?_alloc_past _ _ _ (by simp <;> omega), World.cell?_alloc_at _ _ _ _ (by simp)]; rfl)
                have dd7 : (W6.alloc (.cells #[.int .i64 0, .int .i64 c.k1, .int .i64 c.k2, .int .i64 c.a0, .int .i64 0, .int .i64 c.a2, .slice ta c.T.length tc, .int .i64 c.per, .int .i64 c.ret, .int .i64 c.age, .int .i64 c.dead] 25)).cell? ⟨W6.heap.size, 7, none⟩ = some (.int .i64 c.per) := by first | (simp; done) | (rw [World.cell?_alloc_at _ _ _ _ (by simp)]; rfl) | (rw [World.cell?_alloc_past _ _ _ (by simp <;> omega), World.cell?_alloc_at _ _ _ _ (by simp)]; rfl) | (rw [World.cell?_alloc_past _ _ _ (by simp <;> omega), World.cell?_alloc_past _ _ _ (by simp <;> omega), World.cell?_alloc_at _ _ _ _ (by simp)]; rfl)
                have dd8 : (W6.alloc (.cells #[.int .i64 0, .int .i64 c.k1, .int .i64 c.k2, .int .i64 c.a0, .int .i64 0, .int .i64 c.a2, .slice ta c.T.length tc, .int .i64 c.per, .int .i64 c.ret, .int .i64 c.age, .int .i64 c.dead] 25)).cell? ⟨W6.heap.size, 8, none⟩ = some (.int .i64 c.ret) := by first | (simp; done) | (rw [World.cell?_alloc_at _ _ _ _ (by simp)]; rfl) | (rw [World.cell?_alloc_past _ _ _ (by simp <;> omega), World.cell?_alloc_at _ _ _ _ (by simp)]; rfl) | (rw [World.cell?_alloc_past _ _ _ (by simp <;> omega), World.cell?_alloc_past _ _ _ (by simp <;> omega), World.cell?_alloc_at _ _ _ _ (by simp)]; rfl)
                have dd9 : (W6.alloc (.cells #[.int .i64 0, .int .i64 c.k1, .int .i64 c.k2, .int .i64 c.a0, .int .i64 0, .int .i64 c.a2, .slice ta c.T.length tc, .int .i64 c.per, .int .i64 c.ret, .int .i64 c.age, .int .i64 c.dead] 25)).cell? ⟨W6.heap.size, 9, none⟩ = some (.int .i64 c.age) := by first | (simp; done) | (rw [World.cell?_alloc_at _ _ _ _ (by simp)]; rfl) | (rw [World.cell?_alloc_past _ _ _ (by simp <;> omega), World.cell?_alloc_at _ _ _ _ (by simp)]; rfl) | (rw [World.cell?_alloc_past _ _ _ (by simp <;> omega), World.cell?_alloc_past _ _ _ (by simp <;> omega), World.cell?_alloc_at _ _ _ _ (by simp)]; rfl)
                have dd10 : (W6.alloc (.cells #[.int .i64 0, .int .i64 c.k1, .int .i64 c.k2, .int .i64 c.a0, .int .i64 0, .int .i64 c.a2, .slice ta c.T.length tc, .int .i64 c.per, .int .i64 c.ret, .int .i64 c.age, .int .i64 c.dead] 25)).cell? ⟨W6.heap.size, 10, none⟩ = some (.int .i64 c.dead) := by first | (simp; done) | (rw [World.cell?_alloc_at _ _ _ _ (by simp)]; rfl) | (rw [World.cell?_alloc_past _ _ _ (by simp <;> omega), World.cell?_alloc_at _ _ _ _ (by simp)]; rfl) | (rw [World.cell?_alloc_past _ _ _ (by simp <;> omega), World.cell?_alloc_past _ _ _ (by simp <;> omega), World.cell?_alloc_at _ _ _ _ (by simp)]; rfl)
                have hb2 := (by repeat (first | exact hbel | refine belAlloc ?_ _ | refine belDrew ?_ | refine belSet ?_ _ _ (by simp)) : Below W5.heap.size W5 (W6.alloc (.cells #[.int .i64 0, .int .i64 c.k1, .int .i64 c.k2, .int .i64 c.a0, .int .i64 0, .int .i64 c.a2, .slice ta c.T.length tc, .int .i64 c.per, .int .i64 c.ret, .int .i64 c.age, .int .i64 c.dead] 25)))
                replace hw := belStep hw hb2
                clear hb2 hbel
                generalize W6.alloc (.cells #[.int .i64 0, .int .i64 c.k1, .int .i64 c.k2, .int .i64 c.a0, .int .i64 0, .int .i64 c.a2, .slice ta c.T.length tc, .int .i64 c.per, .int .i64 c.ret, .int .i64 c.age, .int .i64 c.dead] 25) = W7 at *
                replace dd0 := keep dd0
                replace dd1 := keep dd1
                replace dd2 := keep dd2
                replace dd3 := keep dd3
                replace dd4 := keep dd4
                replace dd5 := keep dd5
                replace dd6 := keep dd6
                replace dd7 := keep dd7
                replace dd8 := keep dd8
                replace dd9 := keep dd9
                replace dd10 := keep dd10
                generalize W6.heap.size = d7 at *
                have hbel : Below W7.heap.size W7 W7 := Below.refl _ _
                clear W6
                have HW7 := Lib.hid (belStep HW5.out hw)
                clear hw
                go_upto_region 21 with (first | (go_at_call 15; (with_reducible refine (CD.out _ (belStep HW7.out hbel)).mono ?_); rintro e wp ⟨rfl, hbp⟩; obtain ⟨jc, W8, hrun, hji, hjb, -, -⟩ := conv_row J2 wp (by have := HD2.out; omega); have hb8 := belStep (belStep hbel hbp) hjb; have HB8 := Lib.hid hb8; have HJI := Lib.hid hji; have HEE := Lib.hid (HE1.out.later (belStep HW7.out hb8)); clear hji hjb hb8 hbp hbel) | (go_at_call 16; (with_reducible refine (readC_no _ _ _ J2 _ _ W8 HEE.out HJI.out HD1.out).mono ?_); rintro e wm ⟨rfl, hbm⟩; have hbel := belStep HB8.out hbm; clear hbm))
                clear hrun
                go_wp2
                go_ret
                exact ⟨rfl, belStep HW.out (belStep HW7.out (belAlloc hbel _))⟩
            case rb_r41 =>
              have hg8 : W5.heap.size ≤ u0.heap.size := Below.size hHeld
              go_simp
              refine hK.out _ _ (by exact belAlloc hHeld _) (fun hHeld => ?_)
              clear hK K
              try simp only [Act.put, List.setIfInBounds_toArray, List.set_cons_zero, List.set_cons_succ]
              have hB8 : Blk (u0.alloc (.cells #[.int .i64 0, .int .i64 0, .int .i64 0, .int .i64 0, .int .i64 0, .int .i64 0, .slice none 0 0, .int .i64 0, .int .i64 0, .int .i64 0, .int .i64 0] 25)) u0.heap.size [.int .i64 0, .int .i64 0, .int .i64 0, .int .i64 0, .int .i64 0, .int .i64 0, .slice none 0 0, .int .i64 0, .int .i64 0, .int .i64 0, .int .i64 0] 25 := Blk.new u0 [.int .i64 0, .int .i64 0, .int .i64 0, .int .i64 0, .int .i64 0, .int .i64 0, .slice none 0 0, .int .i64 0, .int .i64 0, .int .i64 0, .int .i64 0] 25
              have hal := belAlloc (Below.refl u0.heap.size u0) (.cells #[.int .i64 0, .int .i64 0, .int .i64 0, .int .i64 0, .int .i64 0, .int .i64 0, .slice none 0 0, .int .i64 0, .int .i64 0, .int .i64 0, .int .i64 0] 25)
              clear hal
              generalize u0.alloc (.cells #[.int .i64 0, .int .i64 0, .int .i64 0, .int .i64 0, .int .i64 0, .int .i64 0, .slice none 0 0, .int .i64 0, .int .i64 0, .int .i64 0, .int .i64 0] 25) = u15 at *
              generalize u0.heap.size = g8 at *
              refine wpAnyH_ready (rs := [14]) (by kernel_rfl) (by simp) ?_
              refine AllReadyH.cons (o := ?o1_r40) ?hi_r40 (fun K hK => ?rest_r40) AllReadyH.nil
              case hi_r40 => ((simp only [List.getElem?_toArray, List.getElem?_cons_succ, List.getElem?_cons_zero]); rfl)
              obtain ⟨c9, W9, hrun9, hi9, hb9, -, -⟩ := conv_row X u15 (by omega)
              go_simp
              have hu9 := belStep hHeld hb9
              refine hK.out _ _ (by exact hu9) (fun hHeld => ?_)
              clear hK K hrun9 hu9
              try simp only [Act.put, List.setIfInBounds_toArray, List.set_cons_zero, List.set_cons_succ]
              replace hB8 := hB8.later hb9
              clear hb9
              refine wpAnyH_ready (rs := [15]) (by kernel_rfl) (by simp) ?_
              refine AllReadyH.cons (o := ?o1_r39) ?hi_r39 (fun K hK => ?rest_r39) AllReadyH.nil
              case hi_r39 => ((simp only [List.getElem?_toArray, List.getElem?_cons_succ, List.getElem?_cons_zero]); rfl)
              go_simp
              (go_at_call 16; (with_reducible refine (readC_no _ _ _ X _ _ _ (HEW.out _ hHeld) hi9 HX.out).mono ?_); rintro e wq ⟨rfl, hbq⟩)
              try go_simp
              have huq := belStep hHeld hbq
              refine hK.out _ _ (by exact huq) (fun hHeld => ?_)
              clear hK K hi9 huq
              try simp only [Act.put, List.setIfInBounds_toArray, List.set_cons_zero, List.set_cons_succ]
              replace hB8 := hB8.later hbq
              clear hbq
              refine wpAnyH_take (i := 16) (oi := ?oi_k32) (v := ?v_k32) ?hi_k32 (by kernel_rfl) ?hf_k32 ?hr_k32 ?hQ_k32 (Or.inl ⟨?hw_k32, ?hy_k32⟩) (by assumption) ?rest_k32
              case hi_k32 => ((simp only [List.getElem?_toArray, List.getElem?_cons_succ, List.getElem?_cons_zero]); rfl)
              case hf_k32 => kernel_rfl
              case hr_k32 => kernel_rfl
              case hQ_k32 => exact fun _ _ _ h => h
              case hw_k32 => rfl
              case hy_k32 => ((intro w hSw; (try dsimp only at hSw); go_simp); all_goals (with_reducible rfl))
              try simp only [Act.put, List.setIfInBounds_toArray, List.set_cons_zero, List.set_cons_succ]
              refine wpAnyH_take (i := 17) (oi := ?oi_k33) (v := ?v_k33) ?hi_k33 (by kernel_rfl) ?hf_k33 ?hr_k33 ?hQ_k33 (Or.inl ⟨?hw_k33, ?hy_k33⟩) (by assumption) ?rest_k33
              case hi_k33 => ((simp only [List.getElem?_toArray, List.getElem?_cons_succ, List.getElem?_cons_zero]); rfl)
              case hf_k33 => kernel_rfl
              case hr_k33 => kernel_rfl
              case hQ_k33 => exact fun _ _ _ h => h
              case hw_k33 => rfl
              case hy_k33 => ((intro w hSw; (try dsimp only at hSw); go_simp); all_goals (with_reducible rfl))
              try simp only [Act.put, List.setIfInBounds_toArray, List.set_cons_zero, List.set_cons_succ]
              refine wpAnyH_take (i := 18) (oi := ?oi_k34) (v := ?v_k34) ?hi_k34 (by kernel_rfl) ?hf_k34 ?hr_k34 ?hQ_k34 (Or.inl ⟨?hw_k34, ?hy_k34⟩) (by assumption) ?rest_k34
              case hi_k34 => ((simp only [List.getElem?_toArray, List.getElem?_cons_succ, List.getElem?_cons_zero]); rfl)
              case hf_k34 => kernel_rfl
              case hr_k34 => kernel_rfl
              case hQ_k34 => exact fun _ _ _ h => h
              case hw_k34 => rfl
              case hy_k34 => ((intro w hSw; (try dsimp only at hSw); go_simp); all_goals (with_reducible rfl))
              try simp only [Act.put, List.setIfInBounds_toArray, List.set_cons_zero, List.set_cons_succ]
              refine wpAnyH_take (i := 19) (oi := ?oi_k35) (v := ?v_k35) ?hi_k35 (by kernel_rfl) ?hf_k35 ?hr_k35 ?hQ_k35 (Or.inl ⟨?hw_k35, ?hy_k35⟩) (by assumption) ?rest_k35
              case hi_k35 => ((simp only [List.getElem?_toArray, List.getElem?_cons_succ, List.getElem?_cons_zero]); rfl)
              case hf_k35 => kernel_rfl
              case hr_k35 => kernel_rfl
              case hQ_k35 => exact fun _ _ _ h => h
              case hw_k35 => rfl
              case hy_k35 => ((intro w hSw; (try dsimp only at hSw); go_simp); all_goals (with_reducible rfl))
              try simp only [Act.put, List.setIfInBounds_toArray, List.set_cons_zero, List.set_cons_succ]
              have y0 := hB8.cell (j := 0) rfl
              have y1 := hB8.cell (j := 1) rfl
              have y2 := hB8.cell (j := 2) rfl
              have y3 := hB8.cell (j := 3) rfl
              have y4 := hB8.cell (j := 4) rfl
              have y5 := hB8.cell (j := 5) rfl
              have y6 := hB8.cell (j := 6) rfl
              have y7 := hB8.cell (j := 7) rfl
              have y8 := hB8.cell (j := 8) rfl
              have y9 := hB8.cell (j := 9) rfl
              have y10 := hB8.cell (j := 10) rfl
              have yf := hB8.frozen
              have hb16 := (belSet (belSet (belSet (belSet (belSet (belSet (belSet (belSet (belSet (belSet (belSet hHeld ⟨g8, 0, none⟩ (.int .i64 0) hg8) ⟨g8, 1, none⟩ (.int .i64 0) hg8) ⟨g8, 2, none⟩ (.int .i64 0) hg8) ⟨g8, 3, none⟩ (.int .i64 0) hg8) ⟨g8, 4, none⟩ (.int .i64 0) hg8) ⟨g8, 5, none⟩ (.int .i64 0) hg8) ⟨g8, 6, none⟩ (.slice none 0 0) hg8) ⟨g8, 7, none⟩ (.int .i64 0) hg8) ⟨g8, 8, none⟩ (.int .i64 0) hg8) ⟨g8, 9, none⟩ (.int .i64 0) hg8) ⟨g8, 10, none⟩ (.int .i64 0) hg8)
              have hR16 : Blk (((((((((((wq.setCell ⟨g8, 0, none⟩ (.int .i64 0)).setCell ⟨g8, 1, none⟩ (.int .i64 0)).setCell ⟨g8, 2, none⟩ (.int .i64 0)).setCell ⟨g8, 3, none⟩ (.int .i64 0)).setCell ⟨g8, 4, none⟩ (.int .i64 0)).setCell ⟨g8, 5, none⟩ (.int .i64 0)).setCell ⟨g8, 6, none⟩ (.slice none 0 0)).setCell ⟨g8, 7, none⟩ (.int .i64 0)).setCell ⟨g8, 8, none⟩ (.int .i64 0)).setCell ⟨g8, 9, none⟩ (.int .i64 0)).setCell ⟨g8, 10, none⟩ (.int .i64 0)) g8 [.int .i64 0, .int .i64 0, .int .i64 0, .int .i64 0, .int .i64 0, .int .i64 0, .slice none 0 0, .int .i64 0, .int .i64 0, .int .i64 0, .int .i64 0] 25 := (((((((((((hB8.set 0 (.int .i64 0)).set 1 (.int .i64 0)).set 2 (.int .i64 0)).set 3 (.int .i64 0)).set 4 (.int .i64 0)).set 5 (.int .i64 0)).set 6 (.slice none 0 0)).set 7 (.int .i64 0)).set 8 (.int .i64 0)).set 9 (.int .i64 0)).set 10 (.int .i64 0))
              refine wpAnyH_ready (rs := [21]) (by kernel_rfl) (by simp) ?_
              refine AllReadyH.cons (o := ?o1_k36) ?hi_k36 (fun K hK => ?rest_k36) AllReadyH.nil
              case hi_k36 => ((simp only [List.getElem?_toArray, List.getElem?_cons_succ, List.getElem?_cons_zero]); rfl)
              go_simp
              refine hK.out _ _ (by exact hb16) (fun hHeld => ?_)
              clear hK K
              try simp only [Act.put, List.setIfInBounds_toArray, List.set_cons_zero, List.set_cons_succ]
              refine wpAnyH_take (i := 22) (oi := ?oi_k37) (v := ?v_k37) ?hi_k37 (by kernel_rfl) ?hf_k37 ?hr_k37 ?hQ_k37 (Or.inl ⟨?hw_k37, ?hy_k37⟩) (by assumption) ?rest_k37
              case hi_k37 => ((simp only [List.getElem?_toArray, List.getElem?_cons_succ, List.getElem?_cons_zero]); rfl)
              case hf_k37 => kernel_rfl
              case hr_k37 => kernel_rfl
              case hQ_k37 => exact fun _ _ _ h => h
              case hw_k37 => rfl
              case hy_k37 => ((intro w hSw; (try dsimp only at hSw); go_simp); all_goals (with_reducible rfl))
              try simp only [Act.put, List.setIfInBounds_toArray, List.set_cons_zero, List.set_cons_succ]
              refine wpAnyH_take (i := 23) (oi := ?oi_k38) (v := ?v_k38) ?hi_k38 (by kernel_rfl) ?hf_k38 ?hr_k38 ?hQ_k38 (Or.inl ⟨?hw_k38, ?hy_k38⟩) (by assumption) ?rest_k38
              case hi_k38 => ((simp only [List.getElem?_toArray, List.getElem?_cons_succ, List.getElem?_cons_zero]); rfl)
              case hf_k38 => kernel_rfl
              case hr_k38 => kernel_rfl
              case hQ_k38 => exact fun _ _ _ h => h
              case hw_k38 => rfl
              case hy_k38 => ((intro w hSw; (try dsimp only at hSw); go_simp); all_goals (with_reducible rfl))
              try simp only [Act.put, List.setIfInBounds_toArray, List.set_cons_zero, List.set_cons_succ]
              refine wpAnyH_done (by kernel_rfl) ?_ _
              clear hHeld hB8 yf y0 y1 y2 y3 y4 y5 y6 y7 y8 y9 y10
              generalize ((((((((((wq.setCell ⟨g8, 0, none⟩ (.int .i64 0)).setCell ⟨g8, 1, none⟩ (.int .i64 0)).setCell ⟨g8, 2, none⟩ (.int .i64 0)).setCell ⟨g8, 3, none⟩ (.int .i64 0)).setCell ⟨g8, 4, none⟩ (.int .i64 0)).setCell ⟨g8, 5, none⟩ (.int .i64 0)).setCell ⟨g8, 6, none⟩ (.slice none 0 0)).setCell ⟨g8, 7, none⟩ (.int .i64 0)).setCell ⟨g8, 8, none⟩ (.int .i64 0)).setCell ⟨g8, 9, none⟩ (.int .i64 0)).setCell ⟨g8, 10, none⟩ (.int .i64 0) = W6 at *
              try clear hbel
              have hbel := hb16
              have HBxx := Lib.hid hR16
              clear hb16 hR16
              clear hwb hb0 hb9 hp0 hp1 hbt wi3 hws h10s
              have hne : (((m : Int) + 1) == ((m : Int) + 1)) = true := by simp
              go_upto_region 20 with fail
              clear HBxx
              have hw := Below.refl W5.heap.size W5
              have dd0 : (W6.alloc (.cells #[.int .i64 0, .int .i64 c.k1, .int .i64 c.k2, .int .i64 c.a0, .int .i64 0, .int .i64 c.a2, .slice ta c.T.length tc, .int .i64 c.per, .int .i64 c.ret, .int .i64 c.age, .int .i64 c.dead] 25)).cell? ⟨W6.heap.size, 0, none⟩ = some (.int .i64 0) := by first | (simp; done) | (rw [World.cell?_alloc_at _ _ _ _ (by simp)]; rfl) | (rw [World.cell?_alloc_past _ _ _ (by simp <;> omega), World.cell?_alloc_at _ _ _ _ (by simp)]; rfl) | (rw [World.cell?_alloc_past _ _ _ (by simp <;> omega), World.cell?_alloc_past _ _ _ (by simp <;> omega), World.cell?_alloc_at _ _ _ _ (by simp)]; rfl)
              have dd1 : (W6.alloc (.cells #[.int .i64 0, .int .i64 c.k1, .int .i64 c.k2, .int .i64 c.a0, .int .i64 0, .int .i64 c.a2, .slice ta c.T.length tc, .int .i64 c.per, .int .i64 c.ret, .int .i64 c.age, .int .i64 c.dead] 25)).cell? ⟨W6.heap.size, 1, none⟩ = some (.int .i64 c.k1) := by first | (simp; done) | (rw [World.cell?_alloc_at _ _ _ _ (by simp)]; rfl) | (rw [World.cell?_alloc_past _ _ _ (by simp <;> omega), World.cell?_alloc_at _ _ _ _ (by simp)]; rfl) | (rw [World.cell?_alloc_past _ _ _ (by simp <;> omega), World.cell?_alloc_past _ _ _ (by simp <;> omega), World.cell?_alloc_at _ _ _ _ (by simp)]; rfl)
              have dd2 : (W6.alloc (.cells #[.int .i64 0, .int .i64 c.k1, .int .i64 c.k2, .int .i64 c.a0, .int .i64 0, .int .i64 c.a2, .slice ta c.T.length tc, .int .i64 c.per, .int .i64 c.ret, .int .i64 c.age, .int .i64 c.dead] 25)).cell? ⟨W6.heap.size, 2, none⟩ = some (.int .i64 c.k2) := by first | (simp; done) | (rw [World.cell?_alloc_at _ _ _ _ (by simp)]; rfl) | (rw [World.cell?_alloc_past _ _ _ (by simp <;> omega), World.cell?_alloc_at _ _ _ _ (by simp)]; rfl) | (rw [World.cell?_alloc_past _ _ _ (by simp <;> omega), World.cell?_alloc_past _ _ _ (by simp <;> omega), World.cell?_alloc_at _ _ _ _ (by simp)]; rfl)
              have dd3 : (W6.alloc (.cells #[.int .i64 0, .int .i64 c.k1, .int .i64 c.k2, .int .i64 c.a0, .int .i64 0, .int .i64 c.a2, .slice ta c.T.length tc, .int .i64 c.per, .int .i64 c.ret, .int .i64 c.age, .int .i64 c.dead] 25)).cell? ⟨W6.heap.size, 3, none⟩ = some (.int .i64 c.a0) := by first | (simp; done) | (rw [World.cell?_alloc_at _ _ _ _ (by simp)]; rfl) | (rw [World.cell?_alloc_past _ _ _ (by simp <;> omega), World.cell?_alloc_at _ _ _ _ (by simp)]; rfl) | (rw [World.cell?_alloc_past _ _ _ (by simp <;> omega), World.cell?_alloc_past _ _ _ (by simp <;> omega), World.cell?_alloc_at _ _ _ _ (by simp)]; rfl)
              have dd4 : (W6.alloc (.cells #[.int .i64 0, .int .i64 c.k1, .int .i64 c.k2, .int .i64 c.a0, .int .i64 0, .int .i64 c.a2, .slice ta c.T.length tc, .int .i64 c.per, .int .i64 c.ret, .int .i64 c.age, .int .i64 c.dead] 25)).cell? ⟨W6.heap.size, 4, none⟩ = some (.int .i64 0) := by first | (simp; done) | (rw [World.cell?_alloc_at _ _ _ _ (by simp)]; rfl) | (rw [World.cell?_alloc_past _ _ _ (by simp <;> omega), World.cell?_alloc_at _ _ _ _ (by simp)]; rfl) | (rw [World.cell?_alloc_past _ _ _ (by simp <;> omega), World.cell?_alloc_past _ _ _ (by simp <;> omega), World.cell?_alloc_at _ _ _ _ (by simp)]; rfl)
              have dd5 : (W6.alloc (.cells #[.int .i64 0, .int .i64 c.k1, .int .i64 c.k2, .int .i64 c.a0, .int .i64 0, .int .i64 c.a2, .slice ta c.T.length tc, .int .i64 c.per, .int .i64 c.ret, .int .i64 c.age, .int .i64 c.dead] 25)).cell? ⟨W6.heap.size, 5, none⟩ = some (.int .i64 c.a2) := by first | (simp; done) | (rw [World.cell?_alloc_at _ _ _ _ (by simp)]; rfl) | (rw [World.cell?_alloc_past _ _ _ (by simp <;> omega), World.cell?_alloc_at _ _ _ _ (by simp)]; rfl) | (rw [World.cell?_alloc_past _ _ _ (by simp <;> omega), World.cell?_alloc_past _ _ _ (by simp <;> omega), World.cell?_alloc_at _ _ _ _ (by simp)]; rfl)
              have dd6 : (W6.alloc (.cells #[.int .i64 0, .int .i64 c.k1, .int .i64 c.k2, .int .i64 c.a0, .int .i64 0, .int .i64 c.a2, .slice ta c.T.length tc, .int .i64 c.per, .int .i64 c.ret, .int .i64 c.age, .int .i64 c.dead] 25)).cell? ⟨W6.heap.size, 6, none⟩ = some (.slice ta c.T.length tc) := by first | (simp; done) | (rw [World.cell?_alloc_at _ _ _ _ (by simp)]; rfl) | (rw [World.cell?_alloc_past _ _ _ (by simp <;> omega), World.cell?_alloc_at _ _ _ _ (by simp)]; rfl) | (rw [World.cell?_alloc_past _ _ _ (by simp <;> omega), World.cell?_alloc_past _ _ _ (by simp <;> omega), World.cell?_alloc_at _ _ _ _ (by simp)]; rfl)
              have dd7 : (W6.alloc (.cells #[.int .i64 0, .int .i64 c.k1, .int .i64 c.k2, .int .i64 c.a0, .int .i64 0, .int .i64 c.a2, .slice ta c.T.length tc, .int .i64 c.per, .int .i64 c.ret, .int .i64 c.age, .int .i64 c.dead] 25)).cell? ⟨W6.heap.size, 7, none⟩ = some (.int .i64 c.per) := by first | (simp; done) | (rw [World.cell?_alloc_at _ _ _ _ (by simp)]; rfl) | (rw [World.cell?_alloc_past _ _ _ (by simp <;> omega), World.cell?_alloc_at _ _ _ _ (by simp)]; rfl) | (rw [World.cell?_alloc_past _ _ _ (by simp <;> omega), World.cell?_alloc_past _ _ _ (by simp <;> omega), World.cell?_alloc_at _ _ _ _ (by simp)]; rfl)
              have dd8 : (W6.alloc (.cells #[.int .i64 0, .int .i64 c.k1, .int .i64 c.k2, .int .i64 c.a0, .int .i64 0, .int .i64 c.a2, .slice ta c.T.length tc, .int .i64 c.per, .int .i64 c.ret, .int .i64 c.age, .int .i64 c.dead] 25)).cell? ⟨W6.heap.size, 8, none⟩ = some (.int .i64 c.ret) := by first | (simp; done) | (rw [World.cell?_alloc_at _ _ _ _ (by simp)]; rfl) | (rw [World.cell?_alloc_past _ _ _ (by simp <;> omega), World.cell?_alloc_at _ _ _ _ (by simp)]; rfl) | (rw [World.cell?_alloc_past _ _ _ (by simp <;> omega), World.cell?_alloc_past _ _ _ (by simp <;> omega), World.cell?_alloc_at _ _ _ _ (by simp)]; rfl)
              have dd9 : (W6.alloc (.cells #[.int .i64 0, .int .i64 c.k1, .int .i64 c.k2, .int .i64 c.a0, .int .i64 0, .int .i64 c.a2, .slice ta c.T.length tc, .int .i64 c.per, .int .i64 c.ret, .int .i64 c.age, .int .i64 c.dead] 25)).cell? ⟨W6.heap.size, 9, none⟩ = some (.int .i64 c.age) := by first | (simp; done) | (rw [World.cell?_alloc_at _ _ _ _ (by simp)]; rfl) | (rw [World.cell?_alloc_past _ _ _ (by simp <;> omega), World.cell?_alloc_at _ _ _ _ (by simp)]; rfl) | (rw [World.cell?_alloc_past _ _ _ (by simp <;> omega), World.cell?_alloc_past _ _ _ (by simp <;> omega), World.cell?_alloc_at _ _ _ _ (by simp)]; rfl)
              have dd10 : (W6.alloc (.cells #[.int .i64 0, .int .i64 c.k1, .int .i64 c.k2, .int .i64 c.a0, .int .i64 0, .int .i64 c.a2, .slice ta c.T.length tc, .int .i64 c.per, .int .i64 c.ret, .int .i64 c.age, .int .i64 c.dead] 25)).cell? ⟨W6.heap.size, 10, none⟩ = some (.int .i64 c.dead) := by first | (simp; done) | (rw [World.cell?_alloc_at _ _ _ _ (by simp)]; rfl) | (rw [World.cell?_alloc_past _ _ _ (by simp <;> omega), World.cell?_alloc_at _ _ _ _ (by simp)]; rfl) | (rw [World.cell?_alloc_past _ _ _ (by simp <;> omega), World.cell?_alloc_past _ _ _ (by simp <;> omega), World.cell?_alloc_at _ _ _ _ (by simp)]; rfl)
              have hb2 := (by repeat (first | exact hbel | refine belAlloc ?_ _ | refine belDrew ?_ | refine belSet ?_ _ _ (by simp)) : Below W5.heap.size W5 (W6.alloc (.cells #[.int .i64 0, .int .i64 c.k1, .int .i64 c.k2, .int .i64 c.a0, .int .i64 0, .int .i64 c.a2, .slice ta c.T.length tc, .int .i64 c.per, .int .i64 c.ret, .int .i64 c.age, .int .i64 c.dead] 25)))
              replace hw := belStep hw hb2
              clear hb2 hbel
              generalize W6.alloc (.cells #[.int .i64 0, .int .i64 c.k1, .int .i64 c.k2, .int .i64 c.a0, .int .i64 0, .int .i64 c.a2, .slice ta c.T.length tc, .int .i64 c.per, .int .i64 c.ret, .int .i64 c.age, .int .i64 c.dead] 25) = W7 at *
              replace dd0 := keep dd0
              replace dd1 := keep dd1
              replace dd2 := keep dd2
              replace dd3 := keep dd3
              replace dd4 := keep dd4
              replace dd5 := keep dd5
              replace dd6 := keep dd6
              replace dd7 := keep dd7
              replace dd8 := keep dd8
              replace dd9 := keep dd9
              replace dd10 := keep dd10
              generalize W6.heap.size = d7 at *
              have hbel : Below W7.heap.size W7 W7 := Below.refl _ _
              clear W6
              have HW7 := Lib.hid (belStep HW5.out hw)
              clear hw
              go_upto_region 21 with (first | (go_at_call 15; (with_reducible refine (CD.out _ (belStep HW7.out hbel)).mono ?_); rintro e wp ⟨rfl, hbp⟩; obtain ⟨jc, W8, hrun, hji, hjb, -, -⟩ := conv_row J2 wp (by have := HD2.out; omega); have hb8 := belStep (belStep hbel hbp) hjb; have HB8 := Lib.hid hb8; have HJI := Lib.hid hji; have HEE := Lib.hid (HE1.out.later (belStep HW7.out hb8)); clear hji hjb hb8 hbp hbel) | (go_at_call 16; (with_reducible refine (readC_no _ _ _ J2 _ _ W8 HEE.out HJI.out HD1.out).mono ?_); rintro e wm ⟨rfl, hbm⟩; have hbel := belStep HB8.out hbm; clear hbm))
              clear hrun
              go_wp2
              go_ret
              exact ⟨rfl, belStep HW.out (belStep HW7.out (belAlloc hbel _))⟩
theorem env_of {W : World} (h : laidMet Tryd.prog Rows.confErrsRow.laid W) (hs : W.ShapedOpen Tryd.prog) : Env W := env_of7 h hs

set_option maxRecDepth 100000 in
set_option maxRecDepth 100000 in
theorem lifted (os : Os) (started : os.Started) (H : Type) (enc : TypeId × Value → H) :
    ReturnsInHanded {} Tryd.checked os 7 .any (fun w args => (Rows.confErrsSpec.pre enc Tryd.prog Tryd.f7 [] false w args ∧ laidMetH Tryd.prog Rows.confErrsRow.laid w) ∧ sizedMet enc Tryd.prog Tryd.f7 (OpenSpec.ofChange Rows.confErrsSpec) false w args) (Rows.confErrsSpec.post enc Tryd.prog Tryd.f7 false true false false) := by
  refine returnsInHanded_of_change_and_shaped (C := Tryd.checked) (X := fun w _ => laidMetH Tryd.prog Rows.confErrsRow.laid w) (fun _ _ _ hh h => h.of_heap hh) own started (by kernel_rfl) Tryd.func7
    (ChangeSpec.witness_shaped (enc := enc) (C := Tryd.checked) (os := os) (X := fun w _ => laidMetH Tryd.prog Rows.confErrsRow.laid w) false (World.laidAll Tryd.prog os Rows.confErrsRow.laid) #[.agg #[.int .i64 0, .int .i64 0, .int .i64 0, .int .i64 0, .int .i64 0, .int .i64 0, .slice none 0 0, .int .i64 0, .int .i64 0, .int .i64 0, .int .i64 0], .int .u8 0, .int .u8 0] 8 (World.laidAll_os _ _ _) (World.shaped_of_ZipB (by kernel_rfl) (by kernel_rfl)) (by kernel_rfl) (by kernel_rfl) (by kernel_rfl) (by rw [MakeChecks.laidMetH_plain _ _ _ (by kernel_rfl)]; exact laidMet_laidAll _ (by kernel_rfl) (by kernel_rfl))) ?_
  intro W base args ds gs before hval0 hW hL hsh
  rw [MakeChecks.laidMetH_plain _ _ _ (by kernel_rfl)] at hL
  have ht : Env W := env_of hL hsh
  clear hL
  have hval : ∀ (j : Nat) t v, Tryd.f7.params[j]? = some t → args[j]? = some v → Value.okWide Tryd.prog W .any base t v := hval0
  have hW' := hW
  obtain ⟨p, q, hA0, hV, rfl, hfz, hnd⟩ := hW
  have hA : DataW.TrodAll enc Tryd.prog W 0 (fun _ => true) true Tryd.f7.params.toList args.toList ds p := hA0
  rw [Tryd.params7] at hA hval
  obtain ⟨v0, vs0, d0, ds0, p0, q0, hargs, rfl, rfl, h0, r0⟩ := trodAll_cons hA
  obtain ⟨v1, vs1, d1, ds1, p1, q1, rfl, rfl, rfl, h1, r1⟩ := trodAll_cons r0
  obtain ⟨v2, vs2, d2, ds2, p2, q2, rfl, rfl, rfl, h2, r2⟩ := trodAll_cons r1
  obtain ⟨rfl, rfl, rfl⟩ := trodAll_nil r2
  obtain rfl : args = #[v0, v1, v2] := by cases args; simp_all
  obtain ⟨rfl, rfl⟩ := trodVars_none hV
  have k0 := h0
  have lt0 : ∀ x ∈ p0, x.block < W.heap.size := by obtain ⟨m, hm⟩ := k0; exact DataW.trod_lt m _ _ _ hm
  have o0 : Value.okWide Tryd.prog W .any base 25 v0 := hval 0 25 v0 rfl rfl
  obtain ⟨c0, ta0, tc0, rfl, hc0⟩ := open_cfg o0 h0
  have k1 := h1
  have lt1 : ∀ x ∈ p1, x.block < W.heap.size := by obtain ⟨m, hm⟩ := k1; exact DataW.trod_lt m _ _ _ hm
  have o1 : Value.okWide Tryd.prog W .any base 5 v1 := hval 1 5 v1 rfl rfl
  obtain ⟨a1, rfl, rfl, rfl, w1⟩ := open_int Tryd.underlying5 o1 h1
  have k2 := h2
  have lt2 : ∀ x ∈ p2, x.block < W.heap.size := by obtain ⟨m, hm⟩ := k2; exact DataW.trod_lt m _ _ _ hm
  have o2 : Value.okWide Tryd.prog W .any base 5 v2 := hval 2 5 v2 rfl rfl
  obtain ⟨a2, rfl, rfl, rfl, w2⟩ := open_int Tryd.underlying5 o2 h2
  clear hA0 hval0
  refine (walk c0 ta0 tc0 a1 a2 W ht hc0 (in8_of_wf w1) (in8_of_wf w2)).mono fun e W' ⟨he, bel⟩ => ?_
  subst he
  exact ⟨_, rfl, _, _, _, [], _, [], hW', trodAll_mk1 (shut_bool Tryd.underlying4 _), (trodAll_cons_mk (Below.trod laidOut (by kernel_rfl) (of_decide_eq_true (by kernel_rfl)) k0 bel lt0) (trodAll_cons_mk (Below.trod laidOut (by kernel_rfl) (of_decide_eq_true (by kernel_rfl)) k1 bel lt1) (trodAll_cons_mk (Below.trod laidOut (by kernel_rfl) (of_decide_eq_true (by kernel_rfl)) k2 bel lt2) trodAll_mk0))), rfl, bel.frame _, fun h => by cases h⟩

theorem over : Rows.confErrsRow.holds Tryd.pinned (OpenSpec.ofChange Rows.confErrsSpec) :=
  OpenClaim.holds_of_wide 7 Tryd.f7 rfl rfl rfl rfl rfl rfl rfl ⟨rfl, rfl, rfl, rfl, rfl⟩ rfl rfl rfl rfl rfl (by kernel_rfl) Tryd.func7 (by kernel_rfl)
    (of_decide_eq_true (by kernel_rfl)) (by unfold Func.isWrapper; first | (rw [if_pos (by decide +kernel)]; kernel_rfl) | (rw [if_neg (by decide +kernel)]; exact ⟨rfl, rfl⟩))
    (fun os started H enc _ => lifted os started H enc)

/-- The statement. -/
theorem proved : Rows.ConfErrsCardSaid :=
  Claim7.holds_tied_plain_at .later [] Rows.confErrsCard.laidKinds true Rows.confErrsCard.stood.harness true
    over (fun _ h => by cases h) (by kernel_rfl) (fun _ h => by cases h) confErrs_row_tie rfl ⟨rfl, rfl⟩ (by kernel_rfl) rfl
    (fun f fn hf hfn => by
      obtain rfl : f = 7 := Option.some.inj ((show Tryd.prog.funcNamed Rows.confErrsRow.func = some 7 by kernel_rfl).symm.trans hf) |>.symm
      obtain rfl : fn = Tryd.f7 := (Option.some.inj (Tryd.func7.symm.trans hfn)).symm
      exact ⟨by kernel_rfl, fun j t ht => by
        rw [Tryd.params7] at ht
        have hm : t ∈ [25, 5, 5] := by simpa using Array.mem_of_getElem? ht
        have hall : ([25, 5, 5].all fun u => !Tryd.prog.wantsStandIn u) = true := by kernel_rfl
        exact (show Tryd.prog.wantsStandIn t = false by simpa using List.all_eq_true.1 hall t hm)⟩)
    (by kernel_rfl)
#print axioms proved

end Go.Proofs.YtcaenbobfneejaaDoor.confErrs
