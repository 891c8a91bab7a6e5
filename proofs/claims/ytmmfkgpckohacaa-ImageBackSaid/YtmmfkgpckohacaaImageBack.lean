
/- ImageBack holds for all its arguments. No conditions. -/
import Derived.Test.YtmmfkgpckohacaaImLM
namespace Go.Proofs.Ytmmfkgpckohacaa.imageBack
open Go.ChangeShapes Go.WideShapes Go.ChangeAt Go.RowKit
open Go.ChangeMaps (open_string shut_string)
set_option linter.unusedVariables false
set_option linter.unusedSimpArgs false
open Go.Sort
set_option maxRecDepth 100000 in
set_option maxHeartbeats 16000000 in
theorem walk (a : Option Addr) (n c : Nat) (L : List ImgV) (s : ByteArray) (size round : Int) (w : World) (hl : L.length = n) (hok : ∀ x ∈ L, x.ok) (hR : Row w a n c 3 (L.flatMap ImgV.cells)) (hs : s.size ≤ maxLen) (hz : InI size) (hrd : InI round) :
    Calls Try.prog 7 #[.slice a n c, .string s, .int .i64 size, .int .i64 round] w fun e w' => e = .returned (.bool true) ∧ Below w.heap.size w w' := by
  have hw : Below w.heap.size w w := Below.refl _ _
  have hbel := hw
  have hbd : n ≤ c ∧ c ≤ 9223372036854775807 := by obtain ⟨_, h1, h2, _⟩ := hR; unfold maxLen at h2; exact ⟨h1, h2⟩
  obtain ⟨hbd1, hbd2⟩ := hbd
  obtain ⟨fw, hfw⟩ : ∃ q, fewI L = q := ⟨_, rfl⟩
  have CFW := Lib.hid (fun u (hu : Below w.heap.size w u) => hfw ▸ iref_Few a n c L u hl (hR.later hu) hok)
  have HFW := Lib.hid hfw
  obtain ⟨rt, hrt⟩ : ∃ q, rightI L = q := ⟨_, rfl⟩
  have CRT := Lib.hid (fun u (hu : Below w.heap.size w u) => hrt ▸ iref_Right a n c L u hl (hR.later hu))
  have HRT := Lib.hid hrt
  clear hrt
  have HR := Lib.hid hR
  have HOK := Lib.hid hok
  have HLN := Lib.hid hl
  clear hR hok hl hfw
  have key : 60 < s.size ∨ (¬ 60 < s.size ∧ size < 0) ∨ (¬ 60 < s.size ∧ ¬ size < 0 ∧ round < 0) ∨ (¬ 60 < s.size ∧ ¬ size < 0 ∧ ¬ round < 0) := by omega
  rcases key with k1 | ⟨k1, k2⟩ | ⟨k1, k2, k3⟩ | ⟨k1, k2, k3⟩
  · have p1 : decide ((60 : Int) < (s.size : Int)) = true := decide_eq_true (by omega)
    have p1b : (60 : Int) < (s.size : Int) := by omega
    go_enter Try.func7, Try.ntmps7
    go_wp2_with (first | (go_at_call 17; (with_reducible refine (awake15 _).mono ?_); rintro e w1 ⟨rfl, hb1⟩; replace hbel := belStep hbel hb1; clear hb1) | (go_at_call 30; (with_reducible refine (CFW.out _ hbel).mono ?_); rintro e wf1 ⟨rfl, hb_wf1⟩; replace hbel := belStep hbel hb_wf1; clear hb_wf1; rcases fw with _ | _) | (go_at_call 32; (with_reducible refine (CRT.out _ hbel).mono ?_); rintro e wf2 ⟨rfl, hb_wf2⟩; replace hbel := belStep hbel hb_wf2; clear hb_wf2; rcases rt with _ | _))
    all_goals (go_ret; exact ⟨rfl, hbel⟩)
  · have p1 : decide ((60 : Int) < (s.size : Int)) = false := decide_eq_false (by omega)
    have p1b : ¬ (60 : Int) < (s.size : Int) := by omega
    have p2 : decide (size < (0 : Int)) = true := decide_eq_true k2
    go_enter Try.func7, Try.ntmps7
    go_wp2_with (first | (go_at_call 17; (with_reducible refine (awake15 _).mono ?_); rintro e w1 ⟨rfl, hb1⟩; replace hbel := belStep hbel hb1; clear hb1) | (go_at_call 30; (with_reducible refine (CFW.out _ hbel).mono ?_); rintro e wf1 ⟨rfl, hb_wf1⟩; replace hbel := belStep hbel hb_wf1; clear hb_wf1; rcases fw with _ | _) | (go_at_call 32; (with_reducible refine (CRT.out _ hbel).mono ?_); rintro e wf2 ⟨rfl, hb_wf2⟩; replace hbel := belStep hbel hb_wf2; clear hb_wf2; rcases rt with _ | _))
    all_goals (go_ret; exact ⟨rfl, hbel⟩)
  · have p1 : decide ((60 : Int) < (s.size : Int)) = false := decide_eq_false (by omega)
    have p1b : ¬ (60 : Int) < (s.size : Int) := by omega
    have p2 : decide (size < (0 : Int)) = false := decide_eq_false k2
    have p3 : decide (round < (0 : Int)) = true := decide_eq_true k3
    go_enter Try.func7, Try.ntmps7
    go_wp2_with (first | (go_at_call 17; (with_reducible refine (awake15 _).mono ?_); rintro e w1 ⟨rfl, hb1⟩; replace hbel := belStep hbel hb1; clear hb1) | (go_at_call 30; (with_reducible refine (CFW.out _ hbel).mono ?_); rintro e wf1 ⟨rfl, hb_wf1⟩; replace hbel := belStep hbel hb_wf1; clear hb_wf1; rcases fw with _ | _) | (go_at_call 32; (with_reducible refine (CRT.out _ hbel).mono ?_); rintro e wf2 ⟨rfl, hb_wf2⟩; replace hbel := belStep hbel hb_wf2; clear hb_wf2; rcases rt with _ | _))
    all_goals (go_ret; exact ⟨rfl, hbel⟩)
  · have p1 : decide ((60 : Int) < (s.size : Int)) = false := decide_eq_false (by omega)
    have p1b : ¬ (60 : Int) < (s.size : Int) := by omega
    have p2 : decide (size < (0 : Int)) = false := decide_eq_false k2
    have p3 : decide (round < (0 : Int)) = false := decide_eq_false k3
    go_enter Try.func7, Try.ntmps7
    go_upto_region 3 with (first | (go_at_call 17; (with_reducible refine (awake15 _).mono ?_); rintro e w1 ⟨rfl, hb1⟩; replace hbel := belStep hbel hb1; clear hb1) | (go_at_call 30; (with_reducible refine (CFW.out _ hbel).mono ?_); rintro e wf1 ⟨rfl, hb_wf1⟩; replace hbel := belStep hbel hb_wf1; clear hb_wf1; rcases fw with _ | _) | (go_at_call 32; (with_reducible refine (CRT.out _ hbel).mono ?_); rintro e wf2 ⟨rfl, hb_wf2⟩; replace hbel := belStep hbel hb_wf2; clear hb_wf2; rcases rt with _ | _))
    · go_ret
      exact ⟨rfl, hbel⟩
    · go_ret
      exact ⟨rfl, hbel⟩
    have HB := Lib.hid hbel
    have HRI := Lib.hid (right_rises HRT.out)
    have hn60 : n ≤ 60 := by rw [← HLN.out]; exact few_len HFW.out
    clear hw CFW CRT p1 p1b p2 p3 k1 k2 k3
    have hpf := put_find HRI.out s size round
    have hpr := put_rises HRI.out s size round
    have hpd := put_drop L s size round
    have hdg := drop_gone L s
    have hpl := put_len_le L s size round
    have hdl := drop_len_le L s
    have hln := HLN.out
    have CF1 := Lib.hid (fun u (hu : Below w.heap.size w u) => im_Find a n c L s u HLN.out (HR.out.later hu) HRI.out)
    have CP := Lib.hid (fun u (hu : Below w.heap.size w u) => im_Put a n c L s size round u HLN.out (HR.out.later hu) HRI.out (by omega))
    have CE := Lib.hid (fun u (hu : Below w.heap.size w u) => im_Drop a n c L s u HLN.out (HR.out.later hu) HRI.out (by omega))
    have hsz : sizeP L s size = (if thereB L s = true then (fndV L s).size else size) := rfl
    have hnoL := fun (h : thereB L s = false) => drop_no h
    have hlnP := fun (h : thereB L s = true) => put_len (size := size) (round := round) h
    obtain ⟨P, hP⟩ : ∃ P, putI L s size round = P := ⟨_, rfl⟩
    obtain ⟨D, hD⟩ : ∃ D, dropI L s = D := ⟨_, rfl⟩
    obtain ⟨X, hX⟩ : ∃ X, fndV L s = X := ⟨_, rfl⟩
    obtain ⟨sz, hs⟩ : ∃ z, sizeP L s size = z := ⟨_, rfl⟩
    obtain ⟨is, his⟩ : ∃ q, thereB L s = q := ⟨_, rfl⟩
    rw [hP] at hpf hpr hpd hpl CP hlnP
    rw [hD] at hpd hdg hdl CE hnoL
    rw [hX] at CF1 hsz
    rw [hs] at hpf hsz
    rw [his] at CF1 CE hsz hnoL hlnP
    have hP63 : P.length ≤ 61 := by omega
    have hD63 : D.length ≤ 60 := by omega
    have HDR := Lib.hid (show Rises D from hD ▸ filt_rises HRI.out _)
    clear hP hD hX hs his
    have CF2 := Lib.hid (fun u a c (hr : Row u a P.length c 3 (P.flatMap ImgV.cells)) => show Calls Try.prog 20 #[.slice a P.length c, .string s] u fun e w' => e = .returned (.tuple #[.agg #[.string s, .int .i64 sz, .int .i64 round], .bool true]) ∧ Below u.heap.size u w' from by have h := im_Find a P.length c P s u rfl hr hpr; rw [hpf.1, hpf.2] at h; exact h)
    have CD := Lib.hid (fun u a c (hr : Row u a P.length c 3 (P.flatMap ImgV.cells)) => show Calls Try.prog 23 #[.slice a P.length c, .string s] u fun e w' => ∃ v, e = .returned (.tuple #[v, .bool true]) ∧ OwnR w' u.heap.size 31 3 v D.length (D.flatMap ImgV.cells) ∧ Below u.heap.size u w' from by have h := im_Drop a P.length c P s u rfl hr hpr (by omega); rw [hpf.1, hpd] at h; exact h)
    have CF3 := Lib.hid (fun u a c (hr : Row u a D.length c 3 (D.flatMap ImgV.cells)) => show Calls Try.prog 20 #[.slice a D.length c, .string s] u fun e w' => e = .returned (.tuple #[.agg #[.string ⟨#[]⟩, .int .i64 0, .int .i64 0], .bool false]) ∧ Below u.heap.size u w' from by have h := im_Find a D.length c D s u rfl hr HDR.out; rw [hdg, show fndV D s = zeroI from by unfold fndV; rw [find_no hdg]; rfl] at h; exact h)
    have CSD := Lib.hid (fun u a1 c1 a2 c2 (h1 : Row u a1 D.length c1 3 (D.flatMap ImgV.cells)) (h2 : Row u a2 D.length c2 3 (D.flatMap ImgV.cells)) => ((sameI_iff D D).2 rfl) ▸ iref_Same a1 D.length c1 D a2 D.length c2 D u rfl h1 rfl h2)
    have HNOL := Lib.hid hnoL
    have HLNP := Lib.hid hlnP
    clear hpf hpr hpd hdg hpl hdl hnoL hlnP hln
    cases is with
    | false =>
      have HSZ := Lib.hid hsz
      clear hsz
      have HDL := Lib.hid (HNOL.out rfl)
      have CSL := Lib.hid (fun u a1 c1 (h1 : Row u a1 D.length c1 3 (D.flatMap ImgV.cells)) (hu : Below w.heap.size w u) => ((sameI_iff D L).2 HDL.out) ▸ iref_Same a1 D.length c1 D a n c L u rfl h1 HLN.out (HR.out.later hu))
      clear HNOL HLNP
      go_upto_region 4 with (go_at_call 20; (with_reducible refine (CF1.out _ HB.out).mono ?_); rintro e w3 ⟨rfl, hb_⟩; replace HB := Lib.hid (belStep HB.out hb_); replace hbel := HB.out; clear hb_)
      have k1 : Below w3.heap.size w3 (w3.alloc (.cells #[.string X.name, .int .i64 X.size, .int .i64 X.last] 31)) := belAlloc (Below.refl _ _) _
      have hn_ := Blk.new w3 [.string X.name, .int .i64 X.size, .int .i64 X.last] 31
      replace HB := Lib.hid (belStep HB.out k1)
      have HX9 := Lib.hid (show Blk (w3.alloc (.cells #[.string X.name, .int .i64 X.size, .int .i64 X.last] 31)) w3.heap.size [.string X.name, .int .i64 X.size, .int .i64 X.last] 31 from hn_)
      clear hn_ k1 hbel
      generalize w3.alloc (.cells #[.string X.name, .int .i64 X.size, .int .i64 X.last] 31) = W3 at *
      have hbel := HB.out
      go_upto_region 5 with (go_at_call 21; (with_reducible refine (CP.out _ HB.out).mono ?_); rintro e w4 ⟨v4, rfl, ho4, hb_⟩; replace HX9 := Lib.hid (HX9.out.later hb_); replace HB := Lib.hid (belStep HB.out hb_); replace hbel := HB.out; obtain ⟨pa, pc, rfl, hrp⟩ := rowR_of_own ho4; have HP := Lib.hid hrp; clear hrp ho4; clear hb_)
      go_upto_region 6 with (go_at_call 20; (with_reducible refine (CF2.out _ pa pc HP.out).mono ?_); rintro e w5 ⟨rfl, hb_⟩; replace HX9 := Lib.hid (HX9.out.later hb_); replace HP := Lib.hid (HP.out.later hb_); replace HB := Lib.hid (belStep HB.out hb_); replace hbel := HB.out; clear hb_)
      have k1 : Below w5.heap.size w5 (w5.alloc (.cells #[.string s, .int .i64 sz, .int .i64 round] 31)) := belAlloc (Below.refl _ _) _
      have hn_ := Blk.new w5 [.string s, .int .i64 sz, .int .i64 round] 31
      replace HX9 := Lib.hid (HX9.out.later k1)
      replace HP := Lib.hid (HP.out.later k1)
      replace HB := Lib.hid (belStep HB.out k1)
      have HX12 := Lib.hid (show Blk (w5.alloc (.cells #[.string s, .int .i64 sz, .int .i64 round] 31)) w5.heap.size [.string s, .int .i64 sz, .int .i64 round] 31 from hn_)
      clear hn_ k1 hbel
      generalize w5.alloc (.cells #[.string s, .int .i64 sz, .int .i64 round] 31) = W5 at *
      have hbel := HB.out
      go_upto_region 7 with (go_at_call 23; (with_reducible refine (CD.out _ pa pc HP.out).mono ?_); rintro e w6 ⟨v6, rfl, ho6, hb_⟩; replace HX9 := Lib.hid (HX9.out.later hb_); replace HX12 := Lib.hid (HX12.out.later hb_); replace HB := Lib.hid (belStep HB.out hb_); replace hbel := HB.out; obtain ⟨da, dc, rfl, hrd⟩ := rowR_of_own ho6; have HD := Lib.hid hrd; clear hrd ho6; clear hb_)
      go_upto_region 8 with (go_at_call 20; (with_reducible refine (CF3.out _ da dc HD.out).mono ?_); rintro e w7 ⟨rfl, hb_⟩; replace HX9 := Lib.hid (HX9.out.later hb_); replace HX12 := Lib.hid (HX12.out.later hb_); replace HD := Lib.hid (HD.out.later hb_); replace HB := Lib.hid (belStep HB.out hb_); replace hbel := HB.out; clear hb_)
      have k1 : Below w7.heap.size w7 (w7.alloc (.cells #[.string ⟨#[]⟩, .int .i64 0, .int .i64 0] 31)) := belAlloc (Below.refl _ _) _
      have hn_ := Blk.new w7 [.string ⟨#[]⟩, .int .i64 0, .int .i64 0] 31
      replace HX9 := Lib.hid (HX9.out.later k1)
      replace HX12 := Lib.hid (HX12.out.later k1)
      replace HD := Lib.hid (HD.out.later k1)
      replace HB := Lib.hid (belStep HB.out k1)
      have HX16 := Lib.hid (show Blk (w7.alloc (.cells #[.string ⟨#[]⟩, .int .i64 0, .int .i64 0] 31)) w7.heap.size [.string ⟨#[]⟩, .int .i64 0, .int .i64 0] 31 from hn_)
      clear hn_ k1 hbel
      generalize w7.alloc (.cells #[.string ⟨#[]⟩, .int .i64 0, .int .i64 0] 31) = W7 at *
      have hbel := HB.out
      clear hbel
      have hbel : Below W7.heap.size W7 W7 := Below.refl _ _
      have x0 := keep (HX9.out.cell (j := 0) rfl)
      have x1 := keep (HX9.out.cell (j := 1) rfl)
      have x2 := keep (HX9.out.cell (j := 2) rfl)
      have z0 := keep (HX12.out.cell (j := 0) rfl)
      have z1 := keep (HX12.out.cell (j := 1) rfl)
      have z2 := keep (HX12.out.cell (j := 2) rfl)
      have hse := HSZ.out
      simp only [Bool.false_eq_true, if_false, if_true] at hse
      have hq1 : (sz != size) = false := by rw [hse]; simp
      have hq1b : sz = size := hse
      have hq2 : (s.toList != s.toList) = false := by simp
      have hq3 : (round != round) = false := by simp
      clear hse
      go_upto_region 10 with fail
      clear x0 x1 x2 z0 z1 z2 hq1 hq1b hq2 hq3 hbel
      have hbel := HB.out
      go_upto_region 11 with (go_at_call 23; (with_reducible refine (CE.out _ HB.out).mono ?_); rintro e w8 ⟨v8, rfl, ho8, hb_⟩; replace HD := Lib.hid (HD.out.later hb_); replace HB := Lib.hid (belStep HB.out hb_); replace hbel := HB.out; obtain ⟨ea, ec, rfl, hre⟩ := rowR_of_own ho8; have HE := Lib.hid hre; clear hre ho8; clear hb_)
      clear hbel
      have hbel : Below w8.heap.size w8 w8 := Below.refl _ _
      go_wp2_with (first | (go_at_call 25; (with_reducible refine (CSD.out _ da dc ea ec (HD.out.later hbel) (HE.out.later hbel)).mono ?_); rintro e w9 ⟨rfl, hb_⟩; replace hbel := belStep hbel hb_; clear hb_) | (go_at_call 25; (with_reducible refine (CSL.out _ da dc (HD.out.later hbel) (belStep HB.out hbel)).mono ?_); rintro e w10 ⟨rfl, hb_⟩; replace hbel := belStep hbel hb_; clear hb_))
      go_ret
      exact ⟨by simp, belStep HB.out hbel⟩
    | true =>
      have HSZ := Lib.hid hsz
      clear hsz
      have HPN := Lib.hid (HLNP.out rfl)
      clear HNOL HLNP
      go_upto_region 4 with (go_at_call 20; (with_reducible refine (CF1.out _ HB.out).mono ?_); rintro e w3 ⟨rfl, hb_⟩; replace HB := Lib.hid (belStep HB.out hb_); replace hbel := HB.out; clear hb_)
      have k1 : Below w3.heap.size w3 (w3.alloc (.cells #[.string X.name, .int .i64 X.size, .int .i64 X.last] 31)) := belAlloc (Below.refl _ _) _
      have hn_ := Blk.new w3 [.string X.name, .int .i64 X.size, .int .i64 X.last] 31
      replace HB := Lib.hid (belStep HB.out k1)
      have HX9 := Lib.hid (show Blk (w3.alloc (.cells #[.string X.name, .int .i64 X.size, .int .i64 X.last] 31)) w3.heap.size [.string X.name, .int .i64 X.size, .int .i64 X.last] 31 from hn_)
      clear hn_ k1 hbel
      generalize w3.alloc (.cells #[.string X.name, .int .i64 X.size, .int .i64 X.last] 31) = W3 at *
      have hbel := HB.out
      go_upto_region 5 with (go_at_call 21; (with_reducible refine (CP.out _ HB.out).mono ?_); rintro e w4 ⟨v4, rfl, ho4, hb_⟩; replace HX9 := Lib.hid (HX9.out.later hb_); replace HB := Lib.hid (belStep HB.out hb_); replace hbel := HB.out; obtain ⟨pa, pc, rfl, hrp⟩ := rowR_of_own ho4; have HP := Lib.hid hrp; clear hrp ho4; clear hb_)
      go_upto_region 6 with (go_at_call 20; (with_reducible refine (CF2.out _ pa pc HP.out).mono ?_); rintro e w5 ⟨rfl, hb_⟩; replace HX9 := Lib.hid (HX9.out.later hb_); replace HP := Lib.hid (HP.out.later hb_); replace HB := Lib.hid (belStep HB.out hb_); replace hbel := HB.out; clear hb_)
      have k1 : Below w5.heap.size w5 (w5.alloc (.cells #[.string s, .int .i64 sz, .int .i64 round] 31)) := belAlloc (Below.refl _ _) _
      have hn_ := Blk.new w5 [.string s, .int .i64 sz, .int .i64 round] 31
      replace HX9 := Lib.hid (HX9.out.later k1)
      replace HP := Lib.hid (HP.out.later k1)
      replace HB := Lib.hid (belStep HB.out k1)
      have HX12 := Lib.hid (show Blk (w5.alloc (.cells #[.string s, .int .i64 sz, .int .i64 round] 31)) w5.heap.size [.string s, .int .i64 sz, .int .i64 round] 31 from hn_)
      clear hn_ k1 hbel
      generalize w5.alloc (.cells #[.string s, .int .i64 sz, .int .i64 round] 31) = W5 at *
      have hbel := HB.out
      go_upto_region 7 with (go_at_call 23; (with_reducible refine (CD.out _ pa pc HP.out).mono ?_); rintro e w6 ⟨v6, rfl, ho6, hb_⟩; replace HX9 := Lib.hid (HX9.out.later hb_); replace HX12 := Lib.hid (HX12.out.later hb_); replace HB := Lib.hid (belStep HB.out hb_); replace hbel := HB.out; obtain ⟨da, dc, rfl, hrd⟩ := rowR_of_own ho6; have HD := Lib.hid hrd; clear hrd ho6; clear hb_)
      go_upto_region 8 with (go_at_call 20; (with_reducible refine (CF3.out _ da dc HD.out).mono ?_); rintro e w7 ⟨rfl, hb_⟩; replace HX9 := Lib.hid (HX9.out.later hb_); replace HX12 := Lib.hid (HX12.out.later hb_); replace HD := Lib.hid (HD.out.later hb_); replace HB := Lib.hid (belStep HB.out hb_); replace hbel := HB.out; clear hb_)
      have k1 : Below w7.heap.size w7 (w7.alloc (.cells #[.string ⟨#[]⟩, .int .i64 0, .int .i64 0] 31)) := belAlloc (Below.refl _ _) _
      have hn_ := Blk.new w7 [.string ⟨#[]⟩, .int .i64 0, .int .i64 0] 31
      replace HX9 := Lib.hid (HX9.out.later k1)
      replace HX12 := Lib.hid (HX12.out.later k1)
      replace HD := Lib.hid (HD.out.later k1)
      replace HB := Lib.hid (belStep HB.out k1)
      have HX16 := Lib.hid (show Blk (w7.alloc (.cells #[.string ⟨#[]⟩, .int .i64 0, .int .i64 0] 31)) w7.heap.size [.string ⟨#[]⟩, .int .i64 0, .int .i64 0] 31 from hn_)
      clear hn_ k1 hbel
      generalize w7.alloc (.cells #[.string ⟨#[]⟩, .int .i64 0, .int .i64 0] 31) = W7 at *
      have hbel := HB.out
      clear hbel
      have hbel : Below W7.heap.size W7 W7 := Below.refl _ _
      have x0 := keep (HX9.out.cell (j := 0) rfl)
      have x1 := keep (HX9.out.cell (j := 1) rfl)
      have x2 := keep (HX9.out.cell (j := 2) rfl)
      have z0 := keep (HX12.out.cell (j := 0) rfl)
      have z1 := keep (HX12.out.cell (j := 1) rfl)
      have z2 := keep (HX12.out.cell (j := 2) rfl)
      have hse := HSZ.out
      simp only [Bool.false_eq_true, if_false, if_true] at hse
      have hq1 : (sz != X.size) = false := by rw [hse]; simp
      have hq1b : sz = X.size := hse
      have hq2 : (s.toList != s.toList) = false := by simp
      have hq3 : (round != round) = false := by simp
      clear hse
      go_upto_region 10 with fail
      clear x0 x1 x2 z0 z1 z2 hq1 hq1b hq2 hq3 hbel
      have hbel := HB.out
      go_upto_region 11 with (go_at_call 23; (with_reducible refine (CE.out _ HB.out).mono ?_); rintro e w8 ⟨v8, rfl, ho8, hb_⟩; replace HD := Lib.hid (HD.out.later hb_); replace HB := Lib.hid (belStep HB.out hb_); replace hbel := HB.out; obtain ⟨ea, ec, rfl, hre⟩ := rowR_of_own ho8; have HE := Lib.hid hre; clear hre ho8; clear hb_)
      clear hbel
      have hbel : Below w8.heap.size w8 w8 := Below.refl _ _
      have hpn : ((P.length : Int) == (n : Int)) = true := by have h1 := HPN.out; have h2 := HLN.out; rw [beq_iff_eq]; omega
      have hpn2 : (P.length : Int) = (n : Int) := by have h1 := HPN.out; have h2 := HLN.out; omega
      go_wp2_with (first | (go_at_call 25; (with_reducible refine (CSD.out _ da dc ea ec (HD.out.later hbel) (HE.out.later hbel)).mono ?_); rintro e w9 ⟨rfl, hb_⟩; replace hbel := belStep hbel hb_; clear hb_))
      go_ret
      exact ⟨by simp, belStep HB.out hbel⟩

set_option maxRecDepth 100000 in
theorem lifted (os : Os) (started : os.Started) (H : Type) (enc : TypeId × Value → H) :
    ReturnsInHanded {} Try.checked os 7 .any (Rows.imageBackSpec.pre6 enc Try.prog Try.f7 Rows.imageBackRow.domain false) (Rows.imageBackSpec.post enc Try.prog Try.f7 false true false false) := by
  refine returnsInHanded_of_change (C := Try.checked) own started (by kernel_rfl) Try.func7
    (ChangeSpec.witness6 (enc := enc) (C := Try.checked) false ⟨#[], #[.slice none 0 0, .string ByteArray.empty, .int .i64 0, .int .i64 0], []⟩ 8 (by kernel_rfl) (by kernel_rfl) (by kernel_rfl) (by kernel_rfl)) ?_
  intro W base args ds gs before hval0 hW hcnd _
  have hval : ∀ (j : Nat) t v, Try.f7.params[j]? = some t → args[j]? = some v → Value.okWide Try.prog W .any base t v := hval0
  have hW' := hW
  obtain ⟨p, q, hA0, hV, rfl, hfz, hnd⟩ := hW
  have hA : DataW.TrodAll enc Try.prog W 0 (fun _ => true) true Try.f7.params.toList args.toList ds p := hA0
  rw [Try.params7] at hA hval
  obtain ⟨v0, vs0, d0, ds0, p0, q0, hargs, rfl, rfl, h0, r0⟩ := trodAll_cons hA
  obtain ⟨v1, vs1, d1, ds1, p1, q1, rfl, rfl, rfl, h1, r1⟩ := trodAll_cons r0
  obtain ⟨v2, vs2, d2, ds2, p2, q2, rfl, rfl, rfl, h2, r2⟩ := trodAll_cons r1
  obtain ⟨v3, vs3, d3, ds3, p3, q3, rfl, rfl, rfl, h3, r3⟩ := trodAll_cons r2
  obtain ⟨rfl, rfl, rfl⟩ := trodAll_nil r3
  obtain rfl : args = #[v0, v1, v2, v3] := by cases args; simp_all
  obtain ⟨rfl, rfl⟩ := trodVars_none hV
  have k0 := h0
  have lt0 : ∀ x ∈ p0, x.block < W.heap.size := by obtain ⟨m, hm⟩ := k0; exact DataW.trod_lt m _ _ _ hm
  have o0 : Value.okWide Try.prog W .any base 25 v0 := hval 0 25 v0 rfl rfl
  obtain ⟨xa0, xn0, xc0, xl0, rfl, fl0, fo0, fr0⟩ := open_imgs o0 h0
  have k1 := h1
  have lt1 : ∀ x ∈ p1, x.block < W.heap.size := by obtain ⟨m, hm⟩ := k1; exact DataW.trod_lt m _ _ _ hm
  have o1 : Value.okWide Try.prog W .any base 9 v1 := hval 1 9 v1 rfl rfl
  obtain ⟨a1, rfl, rfl, rfl, w1⟩ := open_string Try.underlying9 o1 h1
  have k2 := h2
  have lt2 : ∀ x ∈ p2, x.block < W.heap.size := by obtain ⟨m, hm⟩ := k2; exact DataW.trod_lt m _ _ _ hm
  have o2 : Value.okWide Try.prog W .any base 3 v2 := hval 2 3 v2 rfl rfl
  obtain ⟨a2, rfl, rfl, rfl, w2⟩ := open_int Try.underlying3 o2 h2
  have k3 := h3
  have lt3 : ∀ x ∈ p3, x.block < W.heap.size := by obtain ⟨m, hm⟩ := k3; exact DataW.trod_lt m _ _ _ hm
  have o3 : Value.okWide Try.prog W .any base 3 v3 := hval 3 3 v3 rfl rfl
  obtain ⟨a3, rfl, rfl, rfl, w3⟩ := open_int Try.underlying3 o3 h3
  clear hA0 hval0
  refine (walk xa0 xn0 xc0 xl0 a1 a2 a3 W fl0 fo0 fr0 w1 (inI_of_wf w2) (inI_of_wf w3)).mono fun e W' ⟨he, bel⟩ => ?_
  subst he
  exact ⟨_, rfl, _, _, _, [], _, [], hW', trodAll_mk1 (shut_bool Try.underlying4 _), (trodAll_cons_mk (Below.trod laidOut (by kernel_rfl) (of_decide_eq_true (by kernel_rfl)) k0 bel lt0) (trodAll_cons_mk (Below.trod laidOut (by kernel_rfl) (of_decide_eq_true (by kernel_rfl)) k1 bel lt1) (trodAll_cons_mk (Below.trod laidOut (by kernel_rfl) (of_decide_eq_true (by kernel_rfl)) k2 bel lt2) (trodAll_cons_mk (Below.trod laidOut (by kernel_rfl) (of_decide_eq_true (by kernel_rfl)) k3 bel lt3) trodAll_mk0)))), rfl, bel.frame _, fun h => by cases h⟩

theorem over : Rows.imageBackRow.holds Try.pinned (OpenSpec.ofChange Rows.imageBackSpec) :=
  OpenClaim.holds_of_wide 7 Try.f7 rfl rfl rfl rfl rfl rfl rfl ⟨rfl, rfl, rfl, rfl, rfl⟩ rfl rfl rfl rfl rfl (by kernel_rfl) Try.func7 (by kernel_rfl)
    (of_decide_eq_true (by kernel_rfl)) (by unfold Func.isWrapper; first | (rw [if_pos (by decide +kernel)]; kernel_rfl) | (rw [if_neg (by decide +kernel)]; exact ⟨rfl, rfl⟩))
    (fun os started H enc _ => lifted os started H enc)

/-- The statement. -/
theorem proved : Rows.ImageBackSaid := over
#print axioms proved

end Go.Proofs.Ytmmfkgpckohacaa.imageBack
