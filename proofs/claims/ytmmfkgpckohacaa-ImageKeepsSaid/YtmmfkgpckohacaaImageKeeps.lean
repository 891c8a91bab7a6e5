
/- ImageKeeps holds for all its arguments. No conditions. -/
import Derived.Test.YtmmfkgpckohacaaImLM
namespace Go.Proofs.Ytmmfkgpckohacaa.imageKeeps
open Go.ChangeShapes Go.WideShapes Go.ChangeAt Go.RowKit
open Go.ChangeMaps (open_string shut_string)
set_option linter.unusedVariables false
set_option linter.unusedSimpArgs false
open Go.Sort
theorem own_rowS {w : World} {B : Nat} {E : TypeId} {k : Nat} {a : Option Addr} {n c : Nat} {cs : List Value} (h : OwnR w B E k (.slice a n c) n cs) : Row w a n c k cs := by
  obtain ⟨a2, c2, e, hr⟩ := rowR_of_own h
  simp only [Value.slice.injEq] at e
  obtain ⟨rfl, _, rfl⟩ := e
  exact hr
set_option maxRecDepth 100000 in
set_option maxHeartbeats 16000000 in
theorem walk (a : Option Addr) (n c : Nat) (L : List ImgV) (s : ByteArray) (b : Option Addr) (ul uc : Nat) (U : List ByteArray) (w : World) (hl : L.length = n) (hok : ∀ x ∈ L, x.ok) (hR : Row w a n c 3 (L.flatMap ImgV.cells)) (hs : s.size ≤ maxLen) (hu : U.length = ul) (huk : ∀ s ∈ U, s.size ≤ maxLen) (hRU : Row w b ul uc 1 (U.map Value.string)) :
    Calls Try.prog 8 #[.slice a n c, .string s, .slice b ul uc] w fun e w' => e = .returned (.bool true) ∧ Below w.heap.size w w' := by
  have hw : Below w.heap.size w w := Below.refl _ _
  have hbel := hw
  have hbd : n ≤ c ∧ c ≤ 9223372036854775807 := by obtain ⟨_, h1, h2, _⟩ := hR; unfold maxLen at h2; exact ⟨h1, h2⟩
  obtain ⟨hbd1, hbd2⟩ := hbd
  obtain ⟨fw, hfw⟩ : ∃ q, fewI L = q := ⟨_, rfl⟩
  have CFW := Lib.hid (fun u (hu : Below w.heap.size w u) => hfw ▸ iref_Few a n c L u hl (hR.later hu) hok)
  have HFW := Lib.hid hfw
  obtain ⟨rt, hrt⟩ : ∃ q, rightI L = q := ⟨_, rfl⟩
  have CRT := Lib.hid (fun u (hu : Below w.heap.size w u) => hrt ▸ iref_Right a n c L u hl (hR.later hu))
  have HRT := Lib.hid hrt
  clear hrt
  have HR := Lib.hid hR
  have HOK := Lib.hid hok
  have HLN := Lib.hid hl
  clear hR hok hl hfw
  have hbu : ul ≤ uc ∧ uc ≤ 9223372036854775807 := by obtain ⟨_, h1, h2, _⟩ := hRU; unfold maxLen at h2; exact ⟨h1, h2⟩
  obtain ⟨hbu1, hbu2⟩ := hbu
  obtain ⟨fu, hfu⟩ : ∃ q, fewT U = q := ⟨_, rfl⟩
  have CFU := Lib.hid (fun u (hu9 : Below w.heap.size w u) => hfu ▸ iref_Names b ul uc U u hu (hRU.later hu9) huk)
  have HFU := Lib.hid hfu
  have HRU := Lib.hid hRU
  have HUN := Lib.hid hu
  clear hRU huk hu hfu
  by_cases k1 : 60 < s.size
  · have p1 : decide ((60 : Int) < (s.size : Int)) = true := decide_eq_true (by omega)
    have p1b : (60 : Int) < (s.size : Int) := by omega
    go_enter Try.func8, Try.ntmps8
    go_wp2_with (first | (go_at_call 17; (with_reducible refine (awake15 _).mono ?_); rintro e w1 ⟨rfl, hb1⟩; replace hbel := belStep hbel hb1; clear hb1) | (go_at_call 30; (with_reducible refine (CFW.out _ hbel).mono ?_); rintro e wf1 ⟨rfl, hb_wf1⟩; replace hbel := belStep hbel hb_wf1; clear hb_wf1; rcases fw with _ | _) | (go_at_call 31; (with_reducible refine (CFU.out _ hbel).mono ?_); rintro e wf3 ⟨rfl, hb_wf3⟩; replace hbel := belStep hbel hb_wf3; clear hb_wf3; rcases fu with _ | _) | (go_at_call 32; (with_reducible refine (CRT.out _ hbel).mono ?_); rintro e wf2 ⟨rfl, hb_wf2⟩; replace hbel := belStep hbel hb_wf2; clear hb_wf2; rcases rt with _ | _))
    all_goals (go_ret; exact ⟨rfl, hbel⟩)
  have p1 : decide ((60 : Int) < (s.size : Int)) = false := decide_eq_false (by omega)
  have p1b : ¬ (60 : Int) < (s.size : Int) := by omega
  go_enter Try.func8, Try.ntmps8
  go_upto_region 3 with (first | (go_at_call 17; (with_reducible refine (awake15 _).mono ?_); rintro e w1 ⟨rfl, hb1⟩; replace hbel := belStep hbel hb1; clear hb1) | (go_at_call 30; (with_reducible refine (CFW.out _ hbel).mono ?_); rintro e wf1 ⟨rfl, hb_wf1⟩; replace hbel := belStep hbel hb_wf1; clear hb_wf1; rcases fw with _ | _) | (go_at_call 31; (with_reducible refine (CFU.out _ hbel).mono ?_); rintro e wf3 ⟨rfl, hb_wf3⟩; replace hbel := belStep hbel hb_wf3; clear hb_wf3; rcases fu with _ | _) | (go_at_call 32; (with_reducible refine (CRT.out _ hbel).mono ?_); rintro e wf2 ⟨rfl, hb_wf2⟩; replace hbel := belStep hbel hb_wf2; clear hb_wf2; rcases rt with _ | _))
  · go_ret
    exact ⟨rfl, hbel⟩
  · go_ret
    exact ⟨rfl, hbel⟩
  · go_ret
    exact ⟨rfl, hbel⟩
  have HB := Lib.hid hbel
  have HRI := Lib.hid (right_rises HRT.out)
  have hn60 : n ≤ 60 := by rw [← HLN.out]; exact few_len HFW.out
  have hu60 : ul ≤ 60 := by rw [← HUN.out]; exact few_lenT HFU.out
  clear hw CFW CRT CFU p1 p1b hbel
  generalize wf3 = W2 at *
  have HBW2 := Lib.hid HB.out
  have SP := Lib.hid (fun u (hu : Below W2.heap.size W2 u) => iref_Put a n c L s 1 1 u HLN.out (HR.out.later (belStep HBW2.out hu)) HRI.out (by omega))
  have SQ := Lib.hid (fun u (hu : Below W2.heap.size W2 u) => iref_Touch a n c L b ul uc U 2 u HLN.out (HR.out.later (belStep HBW2.out hu)) HUN.out (HRU.out.later (belStep HBW2.out hu)) (by omega))
  have SD := Lib.hid (fun u (hu : Below W2.heap.size W2 u) => iref_Drop a n c L s u HLN.out (HR.out.later (belStep HBW2.out hu)) (by omega))
  have SO := Lib.hid (fun u (hu : Below W2.heap.size W2 u) => iref_Order a n c L b ul uc U u HLN.out (HR.out.later (belStep HBW2.out hu)) HRI.out HUN.out (HRU.out.later (belStep HBW2.out hu)) (by omega))
  have HL := Lib.hid (HR.out.later (belStep HB.out (belAlloc (Below.refl W2.heap.size W2) (.cells #[] 31))))
  have HE := Lib.hid (own_empty W2 31 3)
  have HBE := Lib.hid (belStep HB.out (belAlloc (Below.refl W2.heap.size W2) (.cells #[] 31)))
  go_upto_region 4 with (at_builtin; go_loud (refine wpList_app_row rfl _ _ 25 rfl W2.heap.size 31 _ 3 32 Try.underlying25 info_imgI rfl (by decide) _ 0 [] rfl HE.out _ n c _ rfl HL.out (imgs_one L) ?c1 ?c2 ?c3 ?_))
  case c1 => simp only [maxLen]; omega
  case c2 => omega
  case c3 => simp
  intro v3 w3 ho3 hb3 _
  have ho4 : OwnR w3 W2.heap.size 31 3 v3 n (L.flatMap ImgV.cells) := by simpa using ho3
  obtain ⟨va, vc, rfl, hrow⟩ := rowR_of_own ho4
  have hbv : n ≤ vc ∧ vc ≤ 9223372036854775807 := by obtain ⟨_, h1, h2, _⟩ := hrow; unfold maxLen at h2; exact ⟨h1, h2⟩
  obtain ⟨hbv1, hbv2⟩ := hbv
  have HO := Lib.hid ho4
  have HV := Lib.hid hrow
  have HB23 := Lib.hid (show Below W2.heap.size W2 w3 from (belAlloc (Below.refl _ _) _ : Below W2.heap.size W2 (W2.alloc (.cells #[] 31))).trans hb3)
  replace HB := Lib.hid (HBE.out.trans (hb3.mono HB.out.size))
  have hsW := HB.out.size
  have HGL := Lib.hid (fun q (e : (Value.slice va n vc).ownBlock = some q) => (World.ownsRow.lt ho4 q e).2)
  clear ho3 ho4 hrow hb3 HL HE HBE
  generalize w3 = W3 at *
  have hbel : Below W3.heap.size W3 W3 := Below.refl _ _
  have CP := Lib.hid (fun u (hu : Below W3.heap.size W3 u) => im_Put va n vc L s 1 1 u HLN.out (HV.out.later hu) HRI.out (by omega))
  obtain ⟨P, hP⟩ : ∃ z, putI L s 1 1 = z := ⟨_, rfl⟩
  rw [hP] at CP SP
  clear hP
  have CQ := Lib.hid (fun u (hu : Below W3.heap.size W3 u) => im_Touch va n vc L b ul uc U 2 u HLN.out (HV.out.later hu) HRI.out HUN.out (HRU.out.later (belStep HB.out hu)) (by omega))
  obtain ⟨Q, hQ⟩ : ∃ z, touchI L U 2 = z := ⟨_, rfl⟩
  rw [hQ] at CQ SQ
  clear hQ
  have CD := Lib.hid (fun u (hu : Below W3.heap.size W3 u) => im_Drop va n vc L s u HLN.out (HV.out.later hu) HRI.out (by omega))
  obtain ⟨D, hD⟩ : ∃ z, dropI L s = z := ⟨_, rfl⟩
  rw [hD] at CD SD
  clear hD
  have CO := Lib.hid (fun u (hu : Below W3.heap.size W3 u) => im_Order va n vc L b ul uc U u HLN.out (HV.out.later hu) HRI.out HUN.out (HRU.out.later (belStep HB.out hu)) (by omega))
  obtain ⟨O, hO⟩ : ∃ z, orderI L U = z := ⟨_, rfl⟩
  rw [hO] at CO SO
  clear hO
  obtain ⟨th, hth⟩ : ∃ z, thereB L s = z := ⟨_, rfl⟩
  rw [hth] at CD
  clear hth
  have CSV := Lib.hid (fun u (hu : Below W3.heap.size W3 u) => ((sameI_iff L L).2 rfl) ▸ iref_Same va n vc L a n c L u HLN.out (HV.out.later hu) HLN.out (HR.out.later (belStep HB.out hu)))
  go_upto_region 5 with (go_at_call 21; (with_reducible refine (CP.out _ hbel).mono ?_); rintro e w4 ⟨vP, rfl, ho, hb_⟩; obtain ⟨xP, cP, rfl, _⟩ := rowR_of_own ho; have HP := Lib.hid (OwnR.mono ho hbel.size); have hbz := belStep hbel hb_; clear hbel; have hbel := hbz; clear hbz hb_; clear ho)
  go_upto_region 6 with (go_at_call 22; (with_reducible refine (CQ.out _ hbel).mono ?_); rintro e w5 ⟨vQ, rfl, ho, hb_⟩; obtain ⟨xQ, cQ, rfl, _⟩ := rowR_of_own ho; replace HP := Lib.hid (OwnR.later HP.out hb_); have HQ := Lib.hid (OwnR.mono ho hbel.size); have hbz := belStep hbel hb_; clear hbel; have hbel := hbz; clear hbz hb_; clear ho)
  go_upto_region 7 with (go_at_call 23; (with_reducible refine (CD.out _ hbel).mono ?_); rintro e w6 ⟨vD, rfl, ho, hb_⟩; obtain ⟨xD, cD, rfl, _⟩ := rowR_of_own ho; replace HP := Lib.hid (OwnR.later HP.out hb_); replace HQ := Lib.hid (OwnR.later HQ.out hb_); have HD := Lib.hid (OwnR.mono ho hbel.size); have hbz := belStep hbel hb_; clear hbel; have hbel := hbz; clear hbz hb_; clear ho)
  go_upto_region 8 with (go_at_call 28; (with_reducible refine (CO.out _ hbel).mono ?_); rintro e w7 ⟨vO, rfl, ho, hb_⟩; obtain ⟨xO, cO, rfl, _⟩ := rowR_of_own ho; replace HP := Lib.hid (OwnR.later HP.out hb_); replace HQ := Lib.hid (OwnR.later HQ.out hb_); replace HD := Lib.hid (OwnR.later HD.out hb_); have HO9 := Lib.hid (OwnR.mono ho hbel.size); have hbz := belStep hbel hb_; clear hbel; have hbel := hbz; clear hbz hb_; clear ho)
  clear CP CQ CD CO
  go_upto_region 10 with (go_at_call 25; (with_reducible refine (CSV.out _ hbel).mono ?_); rintro e w8 ⟨rfl, hb_⟩; replace HP := Lib.hid (OwnR.later HP.out hb_); replace HQ := Lib.hid (OwnR.later HQ.out hb_); replace HD := Lib.hid (OwnR.later HD.out hb_); replace HO9 := Lib.hid (OwnR.later HO9.out hb_); have hbz := belStep hbel hb_; clear hbel; have hbel := hbz; clear hbz hb_)
  clear CSV
  have HO8 := Lib.hid (OwnR.later HO.out hbel)
  clear HO HV
  have HBY := Lib.hid (show Below W2.heap.size W2 _ from HB23.out.trans (hbel.mono HB23.out.size))
  have HBX := Lib.hid hbel
  clear hbel
  generalize w8 = W8 at *
  go_wp2
  go_loopw [13] (fun iv wr => ∃ (k : Nat) (cs : List Value), k ≤ n ∧ iv = .int .i64 k ∧ Hid (OwnR wr W2.heap.size 31 3 (.slice va n vc) n cs) ∧ Hid (OwnR wr W3.heap.size 31 3 (.slice xP P.length cP) P.length (P.flatMap ImgV.cells)) ∧ Hid (OwnR wr W3.heap.size 31 3 (.slice xQ Q.length cQ) Q.length (Q.flatMap ImgV.cells)) ∧ Hid (OwnR wr W3.heap.size 31 3 (.slice xD D.length cD) D.length (D.flatMap ImgV.cells)) ∧ Hid (OwnR wr W3.heap.size 31 3 (.slice xO O.length cO) O.length (O.flatMap ImgV.cells)) ∧ Below W2.heap.size W2 wr) (fun iv _ => n - (intOf iv).toNat)
  case atStart => exact ⟨0, _, Nat.zero_le _, rfl, HO8, HP, HQ, HD, HO9, HBY.out⟩
  case round =>
    clear HO8 HP HQ HD HO9
    obtain ⟨k, cs, hk, rfl, HOW, HP, HQ, HD, HO9, hbr⟩ := hrel
    by_cases hlt : k < n
    · have hd : decide ((k : Int) < (n : Int)) = true := decide_eq_true (by omega)
      have hki : (k : Int) < (n : Int) := by omega
      have hk0 : (0 : Int) ≤ (k : Int) := by omega
      rcases own_open HOW.out with ⟨_, h0, _⟩ | ⟨g, gc, C, e9, hBg, hCb, hnc, hcm, hCl, _⟩
      · omega
      simp only [Value.slice.injEq, true_and] at e9
      obtain ⟨rfl, rfl⟩ := e9
      obtain ⟨d0v, d0⟩ : ∃ v, wr.cell? ⟨g, k * 3, none⟩ = some v := ⟨_, hCb.cell (List.getElem?_eq_getElem (by rw [hCl]; omega))⟩
      obtain ⟨d1v, d1⟩ : ∃ v, wr.cell? ⟨g, k * 3 + 1, none⟩ = some v := ⟨_, hCb.cell (List.getElem?_eq_getElem (by rw [hCl]; omega))⟩
      obtain ⟨d2v, d2⟩ : ∃ v, wr.cell? ⟨g, k * 3 + 2, none⟩ = some v := ⟨_, hCb.cell (List.getElem?_eq_getElem (by rw [hCl]; omega))⟩
      have df := hCb.frozen
      have hgl := HGL.out g rfl
      have HOW2 := Lib.hid ((World.ownsRow.stored (World.ownsRow.stored (World.ownsRow.stored HOW.out (k * 3) (.string ⟨#[63]⟩)).1 (k * 3 + 1) (.int .i64 0)).1 (k * 3 + 2) (.int .i64 0)).1)
      have HB2 := Lib.hid (belSet (belSet (belSet hbr ⟨g, k * 3, none⟩ (.string ⟨#[63]⟩) hBg) ⟨g, k * 3 + 1, none⟩ (.int .i64 0) hBg) ⟨g, k * 3 + 2, none⟩ (.int .i64 0) hBg)
      have HPn := Lib.hid (OwnR.setCell (OwnR.setCell (OwnR.setCell HP.out (a := ⟨g, k * 3, none⟩) hgl (.string ⟨#[63]⟩)) (a := ⟨g, k * 3 + 1, none⟩) hgl (.int .i64 0)) (a := ⟨g, k * 3 + 2, none⟩) hgl (.int .i64 0))
      have HQn := Lib.hid (OwnR.setCell (OwnR.setCell (OwnR.setCell HQ.out (a := ⟨g, k * 3, none⟩) hgl (.string ⟨#[63]⟩)) (a := ⟨g, k * 3 + 1, none⟩) hgl (.int .i64 0)) (a := ⟨g, k * 3 + 2, none⟩) hgl (.int .i64 0))
      have HDn := Lib.hid (OwnR.setCell (OwnR.setCell (OwnR.setCell HD.out (a := ⟨g, k * 3, none⟩) hgl (.string ⟨#[63]⟩)) (a := ⟨g, k * 3 + 1, none⟩) hgl (.int .i64 0)) (a := ⟨g, k * 3 + 2, none⟩) hgl (.int .i64 0))
      have HO9n := Lib.hid (OwnR.setCell (OwnR.setCell (OwnR.setCell HO9.out (a := ⟨g, k * 3, none⟩) hgl (.string ⟨#[63]⟩)) (a := ⟨g, k * 3 + 1, none⟩) hgl (.int .i64 0)) (a := ⟨g, k * 3 + 2, none⟩) hgl (.int .i64 0))
      clear hCb hCl hcm HOW HP HQ HD HO9 hbr
      go_wp2
      go_roundw
      case rel => exact ⟨k + 1, _, by omega, by push_cast; rfl, HOW2, HPn, HQn, HDn, HO9n, HB2.out⟩
      case measure => simp [intOf] <;> omega
    · obtain rfl : k = n := by omega
      have hd : decide ((k : Int) < (k : Int)) = false := decide_eq_false (by omega)
      have hbel : Below wr.heap.size wr wr := Below.refl _ _
      have HB9 := Lib.hid hbr
      clear hbr HOW
      have CSP := Lib.hid (fun u a2 c2 (hu : Below wr.heap.size wr u) (h2 : Row u a2 P.length c2 3 (P.flatMap ImgV.cells)) => ((sameI_iff P P).2 rfl) ▸ iref_Same xP P.length cP P a2 P.length c2 P u rfl ((own_rowS HP.out).later hu) rfl h2)
      have CSQ := Lib.hid (fun u a2 c2 (hu : Below wr.heap.size wr u) (h2 : Row u a2 Q.length c2 3 (Q.flatMap ImgV.cells)) => ((sameI_iff Q Q).2 rfl) ▸ iref_Same xQ Q.length cQ Q a2 Q.length c2 Q u rfl ((own_rowS HQ.out).later hu) rfl h2)
      have CSD := Lib.hid (fun u a2 c2 (hu : Below wr.heap.size wr u) (h2 : Row u a2 D.length c2 3 (D.flatMap ImgV.cells)) => ((sameI_iff D D).2 rfl) ▸ iref_Same xD D.length cD D a2 D.length c2 D u rfl ((own_rowS HD.out).later hu) rfl h2)
      have CSO := Lib.hid (fun u a2 c2 (hu : Below wr.heap.size wr u) (h2 : Row u a2 O.length c2 3 (O.flatMap ImgV.cells)) => ((sameI_iff O O).2 rfl) ▸ iref_Same xO O.length cO O a2 O.length c2 O u rfl ((own_rowS HO9.out).later hu) rfl h2)
      go_wp2_with (first | (go_at_call 34; (with_reducible refine (SP.out _ (belStep HB9.out hbel)).mono ?_); rintro e qP ⟨yP, rfl, hy, hb_⟩; obtain ⟨yaP, ycP, rfl, hry⟩ := rowR_of_own hy; have HYP := Lib.hid hry; clear hy hry; have hbz := belStep hbel hb_; clear hbel; have hbel := hbz; clear hbz hb_) | (go_at_call 25; (with_reducible refine (CSP.out _ yaP ycP hbel HYP.out).mono ?_); rintro e zP ⟨rfl, hb_⟩; have hbz := belStep hbel hb_; clear hbel; have hbel := hbz; clear hbz hb_) | (go_at_call 35; (with_reducible refine (SQ.out _ (belStep HB9.out hbel)).mono ?_); rintro e qQ ⟨yQ, rfl, hy, hb_⟩; obtain ⟨yaQ, ycQ, rfl, hry⟩ := rowR_of_own hy; have HYQ := Lib.hid hry; clear hy hry; have hbz := belStep hbel hb_; clear hbel; have hbel := hbz; clear hbz hb_) | (go_at_call 25; (with_reducible refine (CSQ.out _ yaQ ycQ hbel HYQ.out).mono ?_); rintro e zQ ⟨rfl, hb_⟩; have hbz := belStep hbel hb_; clear hbel; have hbel := hbz; clear hbz hb_) | (go_at_call 36; (with_reducible refine (SD.out _ (belStep HB9.out hbel)).mono ?_); rintro e qD ⟨yD, rfl, hy, hb_⟩; obtain ⟨yaD, ycD, rfl, hry⟩ := rowR_of_own hy; have HYD := Lib.hid hry; clear hy hry; have hbz := belStep hbel hb_; clear hbel; have hbel := hbz; clear hbz hb_) | (go_at_call 25; (with_reducible refine (CSD.out _ yaD ycD hbel HYD.out).mono ?_); rintro e zD ⟨rfl, hb_⟩; have hbz := belStep hbel hb_; clear hbel; have hbel := hbz; clear hbz hb_) | (go_at_call 29; (with_reducible refine (SO.out _ (belStep HB9.out hbel)).mono ?_); rintro e qO ⟨yO, rfl, hy, hb_⟩; obtain ⟨yaO, ycO, rfl, hry⟩ := rowR_of_own hy; have HYO := Lib.hid hry; clear hy hry; have hbz := belStep hbel hb_; clear hbel; have hbel := hbz; clear hbz hb_) | (go_at_call 25; (with_reducible refine (CSO.out _ yaO ycO hbel HYO.out).mono ?_); rintro e zO ⟨rfl, hb_⟩; have hbz := belStep hbel hb_; clear hbel; have hbel := hbz; clear hbz hb_))
      go_ret
      exact ⟨by simp, belStep HBW2.out (belStep HB9.out hbel)⟩

set_option maxRecDepth 100000 in
theorem lifted (os : Os) (started : os.Started) (H : Type) (enc : TypeId × Value → H) :
    ReturnsInHanded {} Try.checked os 8 .any (Rows.imageKeepsSpec.pre6 enc Try.prog Try.f8 Rows.imageKeepsRow.domain false) (Rows.imageKeepsSpec.post enc Try.prog Try.f8 false true false false) := by
  refine returnsInHanded_of_change (C := Try.checked) own started (by kernel_rfl) Try.func8
    (ChangeSpec.witness6 (enc := enc) (C := Try.checked) false ⟨#[], #[.slice none 0 0, .string ByteArray.empty, .slice none 0 0], []⟩ 8 (by kernel_rfl) (by kernel_rfl) (by kernel_rfl) (by kernel_rfl)) ?_
  intro W base args ds gs before hval0 hW hcnd _
  have hval : ∀ (j : Nat) t v, Try.f8.params[j]? = some t → args[j]? = some v → Value.okWide Try.prog W .any base t v := hval0
  have hW' := hW
  obtain ⟨p, q, hA0, hV, rfl, hfz, hnd⟩ := hW
  have hA : DataW.TrodAll enc Try.prog W 0 (fun _ => true) true Try.f8.params.toList args.toList ds p := hA0
  rw [Try.params8] at hA hval
  obtain ⟨v0, vs0, d0, ds0, p0, q0, hargs, rfl, rfl, h0, r0⟩ := trodAll_cons hA
  obtain ⟨v1, vs1, d1, ds1, p1, q1, rfl, rfl, rfl, h1, r1⟩ := trodAll_cons r0
  obtain ⟨v2, vs2, d2, ds2, p2, q2, rfl, rfl, rfl, h2, r2⟩ := trodAll_cons r1
  obtain ⟨rfl, rfl, rfl⟩ := trodAll_nil r2
  obtain rfl : args = #[v0, v1, v2] := by cases args; simp_all
  obtain ⟨rfl, rfl⟩ := trodVars_none hV
  have k0 := h0
  have lt0 : ∀ x ∈ p0, x.block < W.heap.size := by obtain ⟨m, hm⟩ := k0; exact DataW.trod_lt m _ _ _ hm
  have o0 : Value.okWide Try.prog W .any base 25 v0 := hval 0 25 v0 rfl rfl
  obtain ⟨xa0, xn0, xc0, xl0, rfl, fl0, fo0, fr0⟩ := open_imgs o0 h0
  have k1 := h1
  have lt1 : ∀ x ∈ p1, x.block < W.heap.size := by obtain ⟨m, hm⟩ := k1; exact DataW.trod_lt m _ _ _ hm
  have o1 : Value.okWide Try.prog W .any base 9 v1 := hval 1 9 v1 rfl rfl
  obtain ⟨a1, rfl, rfl, rfl, w1⟩ := open_string Try.underlying9 o1 h1
  have k2 := h2
  have lt2 : ∀ x ∈ p2, x.block < W.heap.size := by obtain ⟨m, hm⟩ := k2; exact DataW.trod_lt m _ _ _ hm
  have o2 : Value.okWide Try.prog W .any base 26 v2 := hval 2 26 v2 rfl rfl
  obtain ⟨ya2, yn2, yc2, yu2, rfl, gl2, go2, gr2⟩ := open_texts o2 h2
  clear hA0 hval0
  refine (walk xa0 xn0 xc0 xl0 a1 ya2 yn2 yc2 yu2 W fl0 fo0 fr0 w1 gl2 go2 gr2).mono fun e W' ⟨he, bel⟩ => ?_
  subst he
  exact ⟨_, rfl, _, _, _, [], _, [], hW', trodAll_mk1 (shut_bool Try.underlying4 _), (trodAll_cons_mk (Below.trod laidOut (by kernel_rfl) (of_decide_eq_true (by kernel_rfl)) k0 bel lt0) (trodAll_cons_mk (Below.trod laidOut (by kernel_rfl) (of_decide_eq_true (by kernel_rfl)) k1 bel lt1) (trodAll_cons_mk (Below.trod laidOut (by kernel_rfl) (of_decide_eq_true (by kernel_rfl)) k2 bel lt2) trodAll_mk0))), rfl, bel.frame _, fun h => by cases h⟩

theorem over : Rows.imageKeepsRow.holds Try.pinned (OpenSpec.ofChange Rows.imageKeepsSpec) :=
  OpenClaim.holds_of_wide 8 Try.f8 rfl rfl rfl rfl rfl rfl rfl ⟨rfl, rfl, rfl, rfl, rfl⟩ rfl rfl rfl rfl rfl (by kernel_rfl) Try.func8 (by kernel_rfl)
    (of_decide_eq_true (by kernel_rfl)) (by unfold Func.isWrapper; first | (rw [if_pos (by decide +kernel)]; kernel_rfl) | (rw [if_neg (by decide +kernel)]; exact ⟨rfl, rfl⟩))
    (fun os started H enc _ => lifted os started H enc)

/-- The statement. -/
theorem proved : Rows.ImageKeepsSaid := over
#print axioms proved

end Go.Proofs.Ytmmfkgpckohacaa.imageKeeps
