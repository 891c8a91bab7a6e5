
/- The fixed answers of layer 24's statements. -/
import Derived.Test.YtpmkhimmlpnbpaaSt2
import Derived.Test.YtpmkhimmlpnbpaaSt7
import Derived.Test.YtpmkhimmlpnbpaaSt9
import Derived.Test.YtpmkhimmlpnbpaaStFit2
import Derived.Test.YtpmkhimmlpnbpaaStBackM
import Derived.Lib.SlBytesConst
namespace Go.Proofs.Ytpmkhimmlpnbpaa
open Go.RowKit
set_option linter.unusedVariables false
set_option linter.unusedSimpArgs false
def o24 : On := ⟨false, true, false⟩
def B24 : List Int := [0, 0, 0, 0, 0, 0, 0, 3, 2, 0]
def x24 : EntV := ⟨⟨⟨#[112]⟩, 0, false, 0, 0, 0, 0, 0, 0, ⟨#[120]⟩, 0⟩, 2⟩
theorem x24_ok : x24.ok := by
  have h1 : (1 : Nat) ≤ 9223372036854775807 := by omega
  unfold EntV.ok PodV.ok x24 InI maxLen
  simp
  exact ⟨h1, h1⟩
theorem st24 : stB (((3 : Nat) : Int)) [] = true := by decide +kernel
theorem by24 : stBytes 3 o24 [] = B24 := by decide +kernel
theorem B24_B : Bytes B24 := by intro c hc; simp [B24] at hc; omega
theorem row0 (w : World) : Row w none 0 0 12 (([] : List EntV).flatMap EntV.cells) := row_nil
theorem put24 (w : World) : Calls Try.prog 13 #[.agg #[.int .i64 3, .slice none 0 0, .bool false, .bool true, .bool false]] w fun e w' => ∃ a c, e = .returned (.tuple #[.slice a 10 c, .int .i64 0]) ∧ Ints .u8 w' a 10 c B24 ∧ Below w.heap.size w w' := by
  refine (st_Put 3 none 0 0 o24 [] w rfl (fun x hx => by cases hx) (row0 w) st24).mono ?_
  rintro e w1 ⟨v, rfl, hown, hb⟩
  rw [by24] at hown
  obtain ⟨a2, c2, rfl, h2⟩ := ints_of_own hown (fun m hm => wf8 _ (B24_B m hm))
  exact ⟨a2, c2, rfl, h2, hb⟩
theorem get24 (a : Option Addr) (c : Nat) (w : World) (hi : Ints .u8 w a 10 c B24) : Calls Try.prog 18 #[.slice a 10 c] w fun e w' => ∃ b d, e = .returned (.tuple #[.agg #[.int .i64 3, .slice b 0 d, .bool false, .bool true, .bool false], .int .i64 0]) ∧ Row w' b 0 d 12 (([] : List EntV).flatMap EntV.cells) ∧ Below w.heap.size w w' := by
  refine (st_Get a 10 c B24 w hi (by omega)).mono ?_
  have hg : GetOK B24 ((3 : Nat) : Int) o24 [] := by24 ▸ get_put (fun x hx => by cases hx) st24
  rintro e w1 ⟨⟨r, o, L, b, d, hk, rfl, hown, hok⟩ | ⟨hno, _⟩, hb⟩
  · obtain ⟨rfl, rfl, rfl⟩ := hk.uniq hg
    obtain ⟨b2, d2, e2, hr⟩ := rowR_of_own hown
    cases e2
    exact ⟨b, d, rfl, hr, hb⟩
  · exact absurd hg (hno _ _ _)
theorem getn24 (w : World) : Calls Try.prog 18 #[.slice none 0 0] w fun e w' => e = .returned (.tuple #[.agg #[.int .i64 0, .slice none 0 0, .bool false, .bool false, .bool false], .int .i64 3]) ∧ Below w.heap.size w w' := by
  refine (st_Get none 0 0 [] w ⟨row_nil, fun n hn => by cases hn⟩ (by omega)).mono ?_
  rintro e w1 ⟨⟨r, o, L, b, d, hk, _⟩ | ⟨_, rfl⟩, hb⟩
  · exact absurd hk.1 (by simp)
  · exact ⟨rfl, hb⟩
theorem with24 (w : World) : Calls Try.prog 23 #[.agg #[.int .i64 3, .slice none 0 0, .bool false, .bool true, .bool false], .agg #[.string ⟨#[112]⟩, .int .i64 0, .bool false, .int .i64 0, .int .i64 0, .int .i64 0, .int .i64 0, .int .i64 0, .int .i64 0, .string ⟨#[120]⟩, .int .i64 0, .int .i64 2]] w fun e w' => ∃ a c, e = .returned (.agg #[.int .i64 3, .slice a 1 c, .bool false, .bool true, .bool false]) ∧ Row w' a 1 c 12 ([x24].flatMap EntV.cells) ∧ Below w.heap.size w w' := by
  refine (st_With 3 none 0 0 o24 [] x24 w rfl (row0 w) (by omega)).mono ?_
  rintro e w1 ⟨v, rfl, hown, hb⟩
  rw [show withF [] x24 = [x24] from rfl] at hown
  obtain ⟨a, c, rfl, hr⟩ := rowR_of_own hown
  exact ⟨a, c, rfl, hr, hb⟩
theorem find1_24 (a : Option Addr) (c : Nat) (w : World) (hr : Row w a 1 c 12 ([x24].flatMap EntV.cells)) : Calls Try.prog 25 #[.agg #[.int .i64 3, .slice a 1 c, .bool false, .bool true, .bool false], .string ⟨#[112]⟩] w fun e w' => e = .returned (.tuple #[.int .i64 0, .bool true]) ∧ Below w.heap.size w w' := by
  refine (st_Find 3 a 1 c o24 [x24] ⟨#[112]⟩ w rfl hr).mono ?_
  rintro e w1 ⟨rfl, hb⟩
  exact ⟨by rw [show thF [x24] ⟨#[112]⟩ = true by decide +kernel, show plF [x24] ⟨#[112]⟩ = 0 by decide +kernel]; rfl, hb⟩
theorem find0_24 (w : World) : Calls Try.prog 25 #[.agg #[.int .i64 3, .slice none 0 0, .bool false, .bool true, .bool false], .string ⟨#[112]⟩] w fun e w' => e = .returned (.tuple #[.int .i64 0, .bool false]) ∧ Below w.heap.size w w' := by
  refine (st_Find 3 none 0 0 o24 [] ⟨#[112]⟩ w rfl (row0 w)).mono ?_
  rintro e w1 ⟨rfl, hb⟩
  exact ⟨rfl, hb⟩
theorem same24 (b : Option Addr) (d : Nat) (w : World) (hr : Row w b 0 d 12 (([] : List EntV).flatMap EntV.cells)) : Calls Try.prog 20 #[.agg #[.int .i64 3, .slice none 0 0, .bool false, .bool true, .bool false], .agg #[.int .i64 3, .slice b 0 d, .bool false, .bool true, .bool false]] w fun e w' => e = .returned (.bool true) ∧ Below w.heap.size w w' := by
  refine (sref_SameS 3 none 0 0 o24 [] 3 b 0 d o24 [] w rfl (row0 w) rfl hr).mono ?_
  rintro e w1 ⟨rfl, hb⟩
  exact ⟨by rw [(sameS_iff 3 o24 [] 3 o24 []).2 ⟨rfl, rfl, rfl⟩], hb⟩
theorem right24 (a : Option Addr) (c : Nat) (w : World) (hr : Row w a 1 c 12 ([x24].flatMap EntV.cells)) : Calls Try.prog 14 #[.agg #[.int .i64 3, .slice a 1 c, .bool false, .bool true, .bool false]] w fun e w' => e = .returned (.bool true) ∧ Below w.heap.size w w' := by
  refine (st_Right 3 a 1 c o24 [x24] w rfl (fun x hx => by simp at hx; subst hx; exact x24_ok) hr).mono ?_
  rintro e w1 ⟨rfl, hb⟩
  exact ⟨by rw [show stB 3 [x24] = true by decide +kernel], hb⟩
theorem wout24 (a : Option Addr) (c : Nat) (w : World) (hr : Row w a 1 c 12 ([x24].flatMap EntV.cells)) : Calls Try.prog 24 #[.agg #[.int .i64 3, .slice a 1 c, .bool false, .bool true, .bool false], .string ⟨#[112]⟩] w fun e w' => ∃ b d, e = .returned (.agg #[.int .i64 3, .slice b 0 d, .bool false, .bool true, .bool false]) ∧ Below w.heap.size w w' := by
  refine (st_Without 3 a 1 c o24 [x24] ⟨#[112]⟩ w rfl hr (by omega)).mono ?_
  rintro e w1 ⟨v, rfl, hown, hb⟩
  have e0 : woutF [x24] ⟨#[112]⟩ = [] := by
    unfold woutF
    rw [show thF [x24] ⟨#[112]⟩ = true by decide +kernel, show plF [x24] ⟨#[112]⟩ = 0 by decide +kernel]
    rfl
  rw [e0] at hown
  obtain ⟨b, d, rfl, _⟩ := rowR_of_own hown
  exact ⟨b, d, rfl, hb⟩
def q24 : CfgV := ⟨1, 1, 1, 0, 0, 0, none, 0, 0, 1, 0, 1, 0, []⟩
theorem fits24 (a : Option Addr) (c : Nat) (w : World) (hr : Row w a 1 c 12 ([x24].flatMap EntV.cells)) : Calls Try.prog 30 #[.agg #[.int .i64 3, .slice a 1 c, .bool false, .bool true, .bool false], .agg #[.int .i64 1, .int .i64 1, .int .i64 1, .int .i64 0, .int .i64 0, .int .i64 0, .slice none 0 0, .int .i64 1, .int .i64 0, .int .i64 1, .int .i64 0]] w fun e w' => e = .returned (.bool true) ∧ Below w.heap.size w w' := by
  refine (st_Fits 3 a 1 c o24 [x24] q24 w rfl (fun x hx => by simp at hx; subst hx; exact x24_ok) (by omega) hr).mono ?_
  rintro e w1 ⟨rfl, hb⟩
  exact ⟨by rw [show fitsB ⟨q24.a0, q24.a1, q24.a2⟩ (podsOf [x24]) = true by decide +kernel], hb⟩
theorem str24 : ((strOfNums B24).toList == (strOfNums B24).toList) = true := beq_self_eq_true _
set_option maxRecDepth 100000 in
set_option maxHeartbeats 16000000 in
theorem awake24 (w : World) : Calls Try.prog 11 #[] w fun e w' => e = .returned (.bool true) ∧ Below w.heap.size w w' := by
  have HBW := Lib.hid (Below.refl w.heap.size w)
  have hbel := HBW.out
  go_enter Try.func11, Try.ntmps11
  go_upto_region 2 with fail
  have k1 : Below w.heap.size w (w.alloc (.cells #[.int .i64 3, .slice none 0 0, .bool false, .bool true, .bool false] 25)) := belAlloc (Below.refl _ _) _
  have hn_ := Blk.new w [.int .i64 3, .slice none 0 0, .bool false, .bool true, .bool false] 25
  replace HBW := Lib.hid (belStep HBW.out k1)
  have HS := Lib.hid (show Blk (w.alloc (.cells #[.int .i64 3, .slice none 0 0, .bool false, .bool true, .bool false] 25)) w.heap.size [.int .i64 3, .slice none 0 0, .bool false, .bool true, .bool false] 25 from hn_)
  clear hn_ k1 hbel
  generalize w.alloc (.cells #[.int .i64 3, .slice none 0 0, .bool false, .bool true, .bool false] 25) = W1 at *
  have hbel : Below W1.heap.size W1 W1 := Below.refl _ _
  have s0 := (HS.out.cell (j := 0) rfl)
  have s1 := (HS.out.cell (j := 1) rfl)
  have s2 := (HS.out.cell (j := 2) rfl)
  have s3 := (HS.out.cell (j := 3) rfl)
  have s4 := (HS.out.cell (j := 4) rfl)
  go_upto_region 3 with (go_at_call 13; (with_reducible refine (put24 _).mono ?_); rintro e w2 ⟨a2, c2, rfl, hi, hb_⟩; replace HS := Lib.hid (HS.out.later hb_); replace HBW := Lib.hid (belStep HBW.out hb_); replace hbel := belStep hbel hb_; have HI := Lib.hid hi; clear hi; clear hb_)
  clear s0 s1 s2 s3 s4
  go_upto_region 4 with (go_at_call 18; (with_reducible refine (get24 a2 c2 _ HI.out).mono ?_); rintro e w3 ⟨b3, d3, rfl, hr, hb_⟩; replace HS := Lib.hid (HS.out.later hb_); replace HI := Lib.hid (HI.out.later hb_); replace HBW := Lib.hid (belStep HBW.out hb_); replace hbel := belStep hbel hb_; have HR := Lib.hid hr; clear hr; clear hb_)
  have k1 : Below w3.heap.size w3 (w3.alloc (.cells #[.int .i64 3, .slice b3 0 d3, .bool false, .bool true, .bool false] 25)) := belAlloc (Below.refl _ _) _
  have hn_ := Blk.new w3 [.int .i64 3, .slice b3 0 d3, .bool false, .bool true, .bool false] 25
  replace HS := Lib.hid (HS.out.later k1)
  replace HI := Lib.hid (HI.out.later k1)
  replace HR := Lib.hid (HR.out.later k1)
  replace HBW := Lib.hid (belStep HBW.out k1)
  have HT := Lib.hid (show Blk (w3.alloc (.cells #[.int .i64 3, .slice b3 0 d3, .bool false, .bool true, .bool false] 25)) w3.heap.size [.int .i64 3, .slice b3 0 d3, .bool false, .bool true, .bool false] 25 from hn_)
  clear hn_ k1 hbel
  generalize w3.alloc (.cells #[.int .i64 3, .slice b3 0 d3, .bool false, .bool true, .bool false] 25) = W3 at *
  have hbel : Below W3.heap.size W3 W3 := Below.refl _ _
  go_upto_region 5 with (go_at_call 18; (with_reducible refine (getn24 _).mono ?_); rintro e w4 ⟨rfl, hb_⟩; replace HS := Lib.hid (HS.out.later hb_); replace HI := Lib.hid (HI.out.later hb_); replace HR := Lib.hid (HR.out.later hb_); replace HT := Lib.hid (HT.out.later hb_); replace HBW := Lib.hid (belStep HBW.out hb_); replace hbel := belStep hbel hb_; clear hb_)
  have k1 : Below w4.heap.size w4 (w4.alloc (.cells #[.int .i64 0, .slice none 0 0, .bool false, .bool false, .bool false] 25)) := belAlloc (Below.refl _ _) _
  have hn_ := Blk.new w4 [.int .i64 0, .slice none 0 0, .bool false, .bool false, .bool false] 25
  replace HS := Lib.hid (HS.out.later k1)
  replace HI := Lib.hid (HI.out.later k1)
  replace HR := Lib.hid (HR.out.later k1)
  replace HT := Lib.hid (HT.out.later k1)
  replace HBW := Lib.hid (belStep HBW.out k1)
  have HZ := Lib.hid (show Blk (w4.alloc (.cells #[.int .i64 0, .slice none 0 0, .bool false, .bool false, .bool false] 25)) w4.heap.size [.int .i64 0, .slice none 0 0, .bool false, .bool false, .bool false] 25 from hn_)
  clear hn_ k1 hbel
  generalize w4.alloc (.cells #[.int .i64 0, .slice none 0 0, .bool false, .bool false, .bool false] 25) = W4 at *
  have hbel : Below W4.heap.size W4 W4 := Below.refl _ _
  go_upto_region 6 with fail
  have k1 : Below W4.heap.size W4 (W4.alloc (.cells #[.string ⟨#[112]⟩, .int .i64 0, .bool false, .int .i64 0, .int .i64 0, .int .i64 0, .int .i64 0, .int .i64 0, .int .i64 0, .string ⟨#[120]⟩, .int .i64 0] 44)) := belAlloc (Below.refl _ _) _
  have hn_ := Blk.new W4 [.string ⟨#[112]⟩, .int .i64 0, .bool false, .int .i64 0, .int .i64 0, .int .i64 0, .int .i64 0, .int .i64 0, .int .i64 0, .string ⟨#[120]⟩, .int .i64 0] 44
  replace HS := Lib.hid (HS.out.later k1)
  replace HI := Lib.hid (HI.out.later k1)
  replace HR := Lib.hid (HR.out.later k1)
  replace HT := Lib.hid (HT.out.later k1)
  replace HBW := Lib.hid (belStep HBW.out k1)
  have HP := Lib.hid (show Blk (W4.alloc (.cells #[.string ⟨#[112]⟩, .int .i64 0, .bool false, .int .i64 0, .int .i64 0, .int .i64 0, .int .i64 0, .int .i64 0, .int .i64 0, .string ⟨#[120]⟩, .int .i64 0] 44)) W4.heap.size [.string ⟨#[112]⟩, .int .i64 0, .bool false, .int .i64 0, .int .i64 0, .int .i64 0, .int .i64 0, .int .i64 0, .int .i64 0, .string ⟨#[120]⟩, .int .i64 0] 44 from hn_)
  clear hn_ k1 hbel
  generalize W4.alloc (.cells #[.string ⟨#[112]⟩, .int .i64 0, .bool false, .int .i64 0, .int .i64 0, .int .i64 0, .int .i64 0, .int .i64 0, .int .i64 0, .string ⟨#[120]⟩, .int .i64 0] 44) = W5 at *
  have hbel : Below W5.heap.size W5 W5 := Below.refl _ _
  have s0 := (HS.out.cell (j := 0) rfl)
  have s1 := (HS.out.cell (j := 1) rfl)
  have s2 := (HS.out.cell (j := 2) rfl)
  have s3 := (HS.out.cell (j := 3) rfl)
  have s4 := (HS.out.cell (j := 4) rfl)
  have p0 := (HP.out.cell (j := 0) rfl)
  have p1 := (HP.out.cell (j := 1) rfl)
  have p2 := (HP.out.cell (j := 2) rfl)
  have p3 := (HP.out.cell (j := 3) rfl)
  have p4 := (HP.out.cell (j := 4) rfl)
  have p5 := (HP.out.cell (j := 5) rfl)
  have p6 := (HP.out.cell (j := 6) rfl)
  have p7 := (HP.out.cell (j := 7) rfl)
  have p8 := (HP.out.cell (j := 8) rfl)
  have p9 := (HP.out.cell (j := 9) rfl)
  have p10 := (HP.out.cell (j := 10) rfl)
  go_upto_region 7 with (go_at_call 23; (with_reducible refine (with24 _).mono ?_); rintro e w6 ⟨a6, c6, rfl, hr, hb_⟩; replace HS := Lib.hid (HS.out.later hb_); replace HI := Lib.hid (HI.out.later hb_); replace HR := Lib.hid (HR.out.later hb_); replace HT := Lib.hid (HT.out.later hb_); replace HBW := Lib.hid (belStep HBW.out hb_); replace hbel := belStep hbel hb_; have HU := Lib.hid hr; clear hr; clear hb_)
  clear s0 s1 s2 s3 s4 p0 p1 p2 p3 p4 p5 p6 p7 p8 p9 p10
  have k1 : Below w6.heap.size w6 (w6.alloc (.cells #[.int .i64 3, .slice a6 1 c6, .bool false, .bool true, .bool false] 25)) := belAlloc (Below.refl _ _) _
  have hn_ := Blk.new w6 [.int .i64 3, .slice a6 1 c6, .bool false, .bool true, .bool false] 25
  replace HS := Lib.hid (HS.out.later k1)
  replace HI := Lib.hid (HI.out.later k1)
  replace HR := Lib.hid (HR.out.later k1)
  replace HT := Lib.hid (HT.out.later k1)
  replace HU := Lib.hid (HU.out.later k1)
  replace HBW := Lib.hid (belStep HBW.out k1)
  have HV := Lib.hid (show Blk (w6.alloc (.cells #[.int .i64 3, .slice a6 1 c6, .bool false, .bool true, .bool false] 25)) w6.heap.size [.int .i64 3, .slice a6 1 c6, .bool false, .bool true, .bool false] 25 from hn_)
  clear hn_ k1 hbel
  generalize w6.alloc (.cells #[.int .i64 3, .slice a6 1 c6, .bool false, .bool true, .bool false] 25) = W6 at *
  have hbel : Below W6.heap.size W6 W6 := Below.refl _ _
  have v0 := (HV.out.cell (j := 0) rfl)
  have v1 := (HV.out.cell (j := 1) rfl)
  have v2 := (HV.out.cell (j := 2) rfl)
  have v3 := (HV.out.cell (j := 3) rfl)
  have v4 := (HV.out.cell (j := 4) rfl)
  go_upto_region 8 with (go_at_call 25; (with_reducible refine (find1_24 a6 c6 _ HU.out).mono ?_); rintro e w7 ⟨rfl, hb_⟩; replace HS := Lib.hid (HS.out.later hb_); replace HI := Lib.hid (HI.out.later hb_); replace HR := Lib.hid (HR.out.later hb_); replace HT := Lib.hid (HT.out.later hb_); replace HU := Lib.hid (HU.out.later hb_); replace HV := Lib.hid (HV.out.later hb_); replace HBW := Lib.hid (belStep HBW.out hb_); replace hbel := belStep hbel hb_; clear hb_)
  clear v0 v1 v2 v3 v4
  have s0 := (HS.out.cell (j := 0) rfl)
  have s1 := (HS.out.cell (j := 1) rfl)
  have s2 := (HS.out.cell (j := 2) rfl)
  have s3 := (HS.out.cell (j := 3) rfl)
  have s4 := (HS.out.cell (j := 4) rfl)
  go_upto_region 9 with (go_at_call 25; (with_reducible refine (find0_24 _).mono ?_); rintro e w8 ⟨rfl, hb_⟩; replace HS := Lib.hid (HS.out.later hb_); replace HI := Lib.hid (HI.out.later hb_); replace HR := Lib.hid (HR.out.later hb_); replace HT := Lib.hid (HT.out.later hb_); replace HU := Lib.hid (HU.out.later hb_); replace HV := Lib.hid (HV.out.later hb_); replace HBW := Lib.hid (belStep HBW.out hb_); replace hbel := belStep hbel hb_; clear hb_)
  clear s0 s1 s2 s3 s4
  replace hbel := Below.refl w8.heap.size w8
  have s0 := keep (HS.out.cell (j := 0) rfl)
  have s1 := keep (HS.out.cell (j := 1) rfl)
  have s2 := keep (HS.out.cell (j := 2) rfl)
  have s3 := keep (HS.out.cell (j := 3) rfl)
  have s4 := keep (HS.out.cell (j := 4) rfl)
  have t0 := keep (HT.out.cell (j := 0) rfl)
  have t1 := keep (HT.out.cell (j := 1) rfl)
  have t2 := keep (HT.out.cell (j := 2) rfl)
  have t3 := keep (HT.out.cell (j := 3) rfl)
  have t4 := keep (HT.out.cell (j := 4) rfl)
  have v0 := keep (HV.out.cell (j := 0) rfl)
  have v1 := keep (HV.out.cell (j := 1) rfl)
  have v2 := keep (HV.out.cell (j := 2) rfl)
  have v3 := keep (HV.out.cell (j := 3) rfl)
  have v4 := keep (HV.out.cell (j := 4) rfl)
  have CHR := Lib.hid (fun u (hu : Below w8.heap.size w8 u) => HR.out.later hu)
  have CHU := Lib.hid (fun u (hu : Below w8.heap.size w8 u) => HU.out.later hu)
  have hcs := conv_str HI.out
  have hst := str24
  clear HR HU HI
  have hlit : (convert 28 9 (.slice (some ⟨w8.heap.size, 0, none⟩) 10 10)).run Try.prog (w8.alloc (.cells #[.int .u8 0, .int .u8 0, .int .u8 0, .int .u8 0, .int .u8 0, .int .u8 0, .int .u8 0, .int .u8 3, .int .u8 2, .int .u8 0] 5)) = .ok (.string (strOfNums B24)) (w8.alloc (.cells #[.int .u8 0, .int .u8 0, .int .u8 0, .int .u8 0, .int .u8 0, .int .u8 0, .int .u8 0, .int .u8 3, .int .u8 2, .int .u8 0] 5)) := conv_str (ints_new (k := .u8) w8 B24 5 (0, 0) (by simp [B24, maxLen]) (fun m hm => wf8 _ (B24_B m hm)))
  have hfl : ∀ (b : Option Addr) (d : Nat) (u : World), (Instr.field 25 (.agg #[.int .i64 3, .slice b 0 d, .bool false, .bool true, .bool false]) 1).run Try.prog u = .ok (.slice b 0 d) u := fun _ _ _ => by kernel_rfl
  go_wp2_with (first | (go_at_call 20; (with_reducible refine (same24 b3 d3 _ (CHR.out _ (belAlloc hbel _))).mono ?_); rintro e w9 ⟨rfl, hb_⟩; replace hbel := belStep (belAlloc hbel _) hb_; clear hb_) | (go_at_call 14; (with_reducible refine (right24 a6 c6 _ (CHU.out _ hbel)).mono ?_); rintro e w10 ⟨rfl, hb_⟩; replace hbel := belStep hbel hb_; clear hb_) | (go_at_call 24; (with_reducible refine (wout24 a6 c6 _ (CHU.out _ hbel)).mono ?_); rintro e w11 ⟨b11, d11, rfl, hb_⟩; replace hbel := belStep hbel hb_; clear hb_) | (go_at_call 30; (with_reducible refine (fits24 a6 c6 _ (CHU.out _ hbel)).mono ?_); rintro e w12 ⟨rfl, hb_⟩; replace hbel := belStep hbel hb_; clear hb_))
  go_ret
  exact ⟨rfl, belStep HBW.out hbel⟩
end Go.Proofs.Ytpmkhimmlpnbpaa
