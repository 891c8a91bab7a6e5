
/- thresh.Read: contract. -/
import Derived.Test.YtcaenbobfneejaaGreatDoorThrA
namespace Go.Proofs.YtcaenbobfneejaaGreatDoor
open Go.RowKit
set_option linter.unusedVariables false
set_option linter.unusedSimpArgs false

def ThrV.v (t : ThrV) : Value := .agg #[.int .i64 t.sig, .int .i64 t.pct, .int .i64 t.amt, .bool t.soft, .int .i64 t.grace]
def zeroT : ThrV := ⟨0, 0, 0, false, 0⟩
def thV (l : List UInt8) : ThrV := (thF l).getD zeroT
def thE (l : List UInt8) : Int := if (thF l).isSome then 0 else 2
set_option maxRecDepth 100000 in
set_option maxHeartbeats 1000000 in
theorem ThrRead_ret (W : World) (R : Nat) (tm : Array Value) (a b c g er : Int) (s : Bool) (Q : Ending → World → Prop) (h2 : tm.getD 2 undef = .pointer (some ⟨R, 0, none⟩)) (h3 : tm.getD 3 undef = .int .i64 er) (hb : Blk W R [.int .i64 a, .int .i64 b, .int .i64 c, .bool s, .int .i64 g] 54) (hR : Q (.returned (.tuple #[.agg #[.int .i64 a, .int .i64 b, .int .i64 c, .bool s, .int .i64 g], .int .i64 er])) W) :
    bodyPost Tryz.prog Tryz.f34 Q Exit.ret { tmps := tm, defers := [] } W := by
  have z0 := hb.cell (j := 0) rfl
  have z1 := hb.cell (j := 1) rfl
  have z2 := hb.cell (j := 2) rfl
  have z3 := hb.cell (j := 3) rfl
  have z4 := hb.cell (j := 4) rfl
  refine bodyPost_ret (v := .tuple #[.agg #[.int .i64 a, .int .i64 b, .int .i64 c, .bool s, .int .i64 g], .int .i64 er]) ?_ rfl hR
  simp only [Array.getD_eq_getD_getElem?] at h2 h3
  simp [results, Tryz.results34, go_sem, h2, h3, z0, z1, z2, z3, z4]
theorem thF_none {l : List UInt8} (h : (cutC 60 l).2.2 = false ∨ sigB (cutC 60 l).1 = false ∨ limB (cutC 58 (cutC 60 l).2.1).1 = false ∨ ((cutC 58 (cutC 60 l).2.1).2.2 = true ∧ dgB (cutC 58 (cutC 60 l).2.1).2.1 1000 = false)) : thV l = zeroT ∧ thE l = 2 := by
  have : thF l = none := by
    unfold thF
    split
    · rename_i h1
      split
      · rename_i s p a g e1 e2 e3
        rcases h with h | h | h | ⟨h, h'⟩
        · rw [h1] at h; cases h
        · unfold sigB at h; rw [e1] at h; cases h
        · unfold limB at h; rw [e2] at h; cases h
        · unfold grF at e3; rw [if_pos h] at e3; unfold dgB at h'; rw [e3] at h'; cases h'
      · rfl
    · rfl
  unfold thV thE; rw [this]; exact ⟨rfl, rfl⟩
theorem thF_some {l : List UInt8} (h1 : (cutC 60 l).2.2 = true) (h2 : sigB (cutC 60 l).1 = true) (h3 : limB (cutC 58 (cutC 60 l).2.1).1 = true) (h4 : (cutC 58 (cutC 60 l).2.1).2.2 = true → dgB (cutC 58 (cutC 60 l).2.1).2.1 1000 = true) :
    thV l = ⟨sigN (cutC 60 l).1, limP (cutC 58 (cutC 60 l).2.1).1, limA (cutC 58 (cutC 60 l).2.1).1, (cutC 58 (cutC 60 l).2.1).2.2, if (cutC 58 (cutC 60 l).2.1).2.2 then dgN (cutC 58 (cutC 60 l).2.1).2.1 1000 else 0⟩ ∧ thE l = 0 := by
  obtain ⟨s, e1⟩ := Option.isSome_iff_exists.1 h2
  obtain ⟨⟨p, a⟩, e2⟩ := Option.isSome_iff_exists.1 h3
  obtain ⟨q1, q2⟩ := limF_some e2
  have hg : ∃ g, grF (cutC 58 (cutC 60 l).2.1).2.2 (cutC 58 (cutC 60 l).2.1).2.1 = some g ∧ g = if (cutC 58 (cutC 60 l).2.1).2.2 then dgN (cutC 58 (cutC 60 l).2.1).2.1 1000 else 0 := by
    unfold grF
    cases hs : (cutC 58 (cutC 60 l).2.1).2.2 with
    | false => exact ⟨0, rfl, rfl⟩
    | true =>
      obtain ⟨g, e⟩ := Option.isSome_iff_exists.1 (h4 hs)
      refine ⟨g, e, ?_⟩
      rw [if_pos rfl]
      unfold dgN; rw [e]; rfl
  obtain ⟨g, e3, e4⟩ := hg
  have : thF l = some ⟨s, p, a, (cutC 58 (cutC 60 l).2.1).2.2, g⟩ := by
    unfold thF; rw [if_pos h1, e1, e2, e3]
  unfold thV thE sigN
  rw [this, e1, q1, q2, ← e4]
  exact ⟨rfl, rfl⟩
theorem cut_size (c : UInt8) (l : List UInt8) : (cutC c l).1.length ≤ l.length ∧ (cutC c l).2.1.length ≤ l.length := by
  rcases cutC_spec c l with ⟨_, h2, _⟩ | ⟨h1, _⟩
  · have := congrArg List.length h2
    rw [List.length_append, List.length_cons] at this; omega
  · rw [h1]; exact ⟨Nat.le_refl _, Nat.zero_le _⟩

set_option maxRecDepth 100000 in
set_option maxHeartbeats 8000000 in
theorem thr_Read (s : ByteArray) (w : World) (hs : s.size ≤ 1000000) (he : Env w) : Calls Tryz.prog 34 #[.string s] w fun e w' => e = .returned (.tuple #[(thV s.toList).v, .int .i64 (thE s.toList)]) ∧ Below w.heap.size w w' := by
  have hw : Below w.heap.size w w := Below.refl _ _
  have hbel := hw
  have hz1 := cut_size 60 s.toList
  rw [sl_len] at hz1
  have hz2 := cut_size 58 (cutC 60 s.toList).2.1
  have C1 := fun u (hu : Below w.heap.size w u) => cut_any s 60 u hs (he.later hu)
  have C2 := fun u (hu : Below w.heap.size w u) => cut_any (bAt (cutC 60 s.toList).2.1) 58 u (by rw [← sl_len, bAt_list]; omega) (he.later hu)
  have C3 := fun u => thr_Signal (bAt (cutC 60 s.toList).1) u
  have C4 := fun (M : Nat) (g0 g4 : Int) (b3 : Bool) u (hu : Below w.heap.size w u) => thr_limit (bAt (cutC 58 (cutC 60 s.toList).2.1).1) M g0 g4 b3 u (by rw [← sl_len, bAt_list]; omega) (he.later hu)
  have C5 := fun u (hu : Below w.heap.size w u) => thr_digits (bAt (cutC 58 (cutC 60 s.toList).2.1).2.1) 1000 u (by rw [← sl_len, bAt_list]; omega) (by omega) (he.later hu)
  rw [bAt_list] at C2 C3 C4 C5
  have hN := fun h => @thF_none s.toList h
  have hS := fun h1 h2 h3 h4 => @thF_some s.toList h1 h2 h3 h4
  generalize bAt (cutC 60 s.toList).1 = nm at *
  generalize bAt (cutC 60 s.toList).2.1 = rs at *
  generalize bAt (cutC 58 (cutC 60 s.toList).2.1).1 = bl at *
  generalize bAt (cutC 58 (cutC 60 s.toList).2.1).2.1 = ro at *
  generalize sigN (cutC 60 s.toList).1 = sg at *
  generalize limP (cutC 58 (cutC 60 s.toList).2.1).1 = lp at *
  generalize limA (cutC 58 (cutC 60 s.toList).2.1).1 = la at *
  generalize dgN (cutC 58 (cutC 60 s.toList).2.1).2.1 1000 = gn at *
  clear hz1 hz2 he
  have HC4 := Lib.hid C4
  have HC5 := Lib.hid C5
  cases h1 : (cutC 60 s.toList).2.2 with
  | false =>
    rw [h1] at C1
    have HV := Lib.hid (hN (.inl h1))
    clear C4 C5 hN hS h1
    have HC1 := Lib.hid C1
    have HC2 := Lib.hid C2
    have HC3 := Lib.hid C3
    clear C1 C2 C3
    go_enter Tryz.func34, Tryz.ntmps34
    go_upto_region 1 with fail
    have rr0 : (w.alloc (.cells #[.int .i64 0, .int .i64 0, .int .i64 0, .bool false, .int .i64 0] 54)).cell? ⟨w.heap.size, 0, none⟩ = some (.int .i64 0) := by first | (simp; done) | (rw [World.cell?_alloc_at _ _ _ _ (by simp)]; rfl) | (rw [World.cell?_alloc_past _ _ _ (by simp <;> omega), World.cell?_alloc_at _ _ _ _ (by simp)]; rfl) | (rw [World.cell?_alloc_past _ _ _ (by simp <;> omega), World.cell?_alloc_past _ _ _ (by simp <;> omega), World.cell?_alloc_at _ _ _ _ (by simp)]; rfl)
    have rr1 : (w.alloc (.cells #[.int .i64 0, .int .i64 0, .int .i64 0, .bool false, .int .i64 0] 54)).cell? ⟨w.heap.size, 1, none⟩ = some (.int .i64 0) := by first | (simp; done) | (rw [World.cell?_alloc_at _ _ _ _ (by simp)]; rfl) | (rw [World.cell?_alloc_past _ _ _ (by simp <;> omega), World.cell?_alloc_at _ _ _ _ (by simp)]; rfl) | (rw [World.cell?_alloc_past _ _ _ (by simp <;> omega), World.cell?_alloc_past _ _ _ (by simp <;> omega), World.cell?_alloc_at _ _ _ _ (by simp)]; rfl)
    have rr2 : (w.alloc (.cells #[.int .i64 0, .int .i64 0, .int .i64 0, .bool false, .int .i64 0] 54)).cell? ⟨w.heap.size, 2, none⟩ = some (.int .i64 0) := by first | (simp; done) | (rw [World.cell?_alloc_at _ _ _ _ (by simp)]; rfl) | (rw [World.cell?_alloc_past _ _ _ (by simp <;> omega), World.cell?_alloc_at _ _ _ _ (by simp)]; rfl) | (rw [World.cell?_alloc_past _ _ _ (by simp <;> omega), World.cell?_alloc_past _ _ _ (by simp <;> omega), World.cell?_alloc_at _ _ _ _ (by simp)]; rfl)
    have rr3 : (w.alloc (.cells #[.int .i64 0, .int .i64 0, .int .i64 0, .bool false, .int .i64 0] 54)).cell? ⟨w.heap.size, 3, none⟩ = some (.bool false) := by first | (simp; done) | (rw [World.cell?_alloc_at _ _ _ _ (by simp)]; rfl) | (rw [World.cell?_alloc_past _ _ _ (by simp <;> omega), World.cell?_alloc_at _ _ _ _ (by simp)]; rfl) | (rw [World.cell?_alloc_past _ _ _ (by simp <;> omega), World.cell?_alloc_past _ _ _ (by simp <;> omega), World.cell?_alloc_at _ _ _ _ (by simp)]; rfl)
    have rr4 : (w.alloc (.cells #[.int .i64 0, .int .i64 0, .int .i64 0, .bool false, .int .i64 0] 54)).cell? ⟨w.heap.size, 4, none⟩ = some (.int .i64 0) := by first | (simp; done) | (rw [World.cell?_alloc_at _ _ _ _ (by simp)]; rfl) | (rw [World.cell?_alloc_past _ _ _ (by simp <;> omega), World.cell?_alloc_at _ _ _ _ (by simp)]; rfl) | (rw [World.cell?_alloc_past _ _ _ (by simp <;> omega), World.cell?_alloc_past _ _ _ (by simp <;> omega), World.cell?_alloc_at _ _ _ _ (by simp)]; rfl)
    have hb2 := (by repeat (first | exact hbel | refine belAlloc ?_ _ | refine belDrew ?_ | refine belSet ?_ _ _ (by simp)) : Below w.heap.size w (w.alloc (.cells #[.int .i64 0, .int .i64 0, .int .i64 0, .bool false, .int .i64 0] 54)))
    replace hw := belStep hw hb2
    have rrB : Blk (w.alloc (.cells #[.int .i64 0, .int .i64 0, .int .i64 0, .bool false, .int .i64 0] 54)) (w.heap.size) [.int .i64 0, .int .i64 0, .int .i64 0, .bool false, .int .i64 0] 54 := (Blk.at (by simp) : Blk (w.alloc (.cells #[.int .i64 0, .int .i64 0, .int .i64 0, .bool false, .int .i64 0] 54)) (w.heap.size) [.int .i64 0, .int .i64 0, .int .i64 0, .bool false, .int .i64 0] 54).later (by repeat (first | exact Below.refl _ _ | refine belAlloc ?_ _))
    have rrF := Blk.keepF rrB
    replace rrB := Blk.keepB rrB
    clear hb2 hbel
    generalize w.alloc (.cells #[.int .i64 0, .int .i64 0, .int .i64 0, .bool false, .int .i64 0] 54) = W1 at *
    replace rr0 := keep rr0
    replace rr1 := keep rr1
    replace rr2 := keep rr2
    replace rr3 := keep rr3
    replace rr4 := keep rr4
    have hbel : Below W1.heap.size W1 W1 := Below.refl _ _
    skip
    go_wp2_with (first | (go_at_call 51; (with_reducible refine (HC1.out _ (belStep hw hbel)).mono ?_); rintro e w1 ⟨rfl, hb1⟩; replace hbel := belStep hbel hb1; clear hb1) | (go_at_call 51; (with_reducible refine (HC2.out _ (belStep hw hbel)).mono ?_); rintro e w1 ⟨rfl, hb1⟩; replace hbel := belStep hbel hb1; clear hb1) | (go_at_call 52; (with_reducible refine (HC3.out _).mono ?_); rintro e w' ⟨rfl, rfl⟩))
    exact ThrRead_ret _ _ _ 0 0 0 0 2 false _ rfl rfl ((((((rrB _ (belAlloc hbel _)).set 0 _).set 1 _).set 2 _).set 3 _).set 4 _) ⟨by rw [HV.out.1, HV.out.2]; rfl, by repeat (first | exact belStep hw hbel | refine belSet ?_ _ _ (Nat.le_refl _) | refine belAlloc ?_ _)⟩
  | true =>
    rw [h1] at C1
    cases h2 : sigB (cutC 60 s.toList).1 with
    | false =>
      rw [h2] at C3
      have HV := Lib.hid (hN (.inr (.inl h2)))
      clear C4 C5 hN hS h1 h2
      have HC1 := Lib.hid C1
      have HC2 := Lib.hid C2
      have HC3 := Lib.hid C3
      clear C1 C2 C3
      go_enter Tryz.func34, Tryz.ntmps34
      go_upto_region 1 with fail
      have rr0 : (w.alloc (.cells #[.int .i64 0, .int .i64 0, .int .i64 0, .bool false, .int .i64 0] 54)).cell? ⟨w.heap.size, 0, none⟩ = some (.int .i64 0) := by first | (simp; done) | (rw [World.cell?_alloc_at _ _ _ _ (by simp)]; rfl) | (rw [World.cell?_alloc_past _ _ _ (by simp <;> omega), World.cell?_alloc_at _ _ _ _ (by simp)]; rfl) | (rw [World.cell?_alloc_past _ _ _ (by simp <;> omega), World.cell?_alloc_past _ _ _ (by simp <;> omega), World.cell?_alloc_at _ _ _ _ (by simp)]; rfl)
      have rr1 : (w.alloc (.cells #[.int .i64 0, .int .i64 0, .int .i64 0, .bool false, .int .i64 0] 54)).cell? ⟨w.heap.size, 1, none⟩ = some (.int .i64 0) := by first | (simp; done) | (rw [World.cell?_alloc_at _ _ _ _ (by simp)]; rfl) | (rw [World.cell?_alloc_past _ _ _ (by simp <;> omega), World.cell?_alloc_at _ _ _ _ (by simp)]; rfl) | (rw [World.cell?_alloc_past _ _ _ (by simp <;> omega), World.cell?_alloc_past _ _ _ (by simp <;> omega), World.cell?_alloc_at _ _ _ _ (by simp)]; rfl)
      have rr2 : (w.alloc (.cells #[.int .i64 0, .int .i64 0, .int .i64 0, .bool false, .int .i64 0] 54)).cell? ⟨w.heap.size, 2, none⟩ = some (.int .i64 0) := by first | (simp; done) | (rw [World.cell?_alloc_at _ _ _ _ (by simp)]; rfl) | (rw [World.cell?_alloc_past _ _ _ (by simp <;> omega), World.cell?_alloc_at _ _ _ _ (by simp)]; rfl) | (rw [World.cell?_alloc_past _ _ _ (by simp <;> omega), World.cell?_alloc_past _ _ _ (by simp <;> omega), World.cell?_alloc_at _ _ _ _ (by simp)]; rfl)
      have rr3 : (w.alloc (.cells #[.int .i64 0, .int .i64 0, .int .i64 0, .bool false, .int .i64 0] 54)).cell? ⟨w.heap.size, 3, none⟩ = some (.bool false) := by first | (simp; done) | (rw [World.cell?_alloc_at _ _ _ _ (by simp)]; rfl) | (rw [World.cell?_alloc_past _ _ _ (by simp <;> omega), World.cell?_alloc_at _ _ _ _ (by simp)]; rfl) | (rw [World.cell?_alloc_past _ _ _ (by simp <;> omega), World.cell?_alloc_past _ _ _ (by simp <;> omega), World.cell?_alloc_at _ _ _ _ (by simp)]; rfl)
      have rr4 : (w.alloc (.cells #[.int .i64 0, .int .i64 0, .int .i64 0, .bool false, .int .i64 0] 54)).cell? ⟨w.heap.size, 4, none⟩ = some (.int .i64 0) := by first | (simp; done) | (rw [World.cell?_alloc_at _ _ _ _ (by simp)]; rfl) | (rw [World.cell?_alloc_past _ _ _ (by simp <;> omega), World.cell?_alloc_at _ _ _ _ (by simp)]; rfl) | (rw [World.cell?_alloc_past _ _ _ (by simp <;> omega), World.cell?_alloc_past _ _ _ (by simp <;> omega), World.cell?_alloc_at _ _ _ _ (by simp)]; rfl)
      have hb2 := (by repeat (first | exact hbel | refine belAlloc ?_ _ | refine belDrew ?_ | refine belSet ?_ _ _ (by simp)) : Below w.heap.size w (w.alloc (.cells #[.int .i64 0, .int .i64 0, .int .i64 0, .bool false, .int .i64 0] 54)))
      replace hw := belStep hw hb2
      have rrB : Blk (w.alloc (.cells #[.int .i64 0, .int .i64 0, .int .i64 0, .bool false, .int .i64 0] 54)) (w.heap.size) [.int .i64 0, .int .i64 0, .int .i64 0, .bool false, .int .i64 0] 54 := (Blk.at (by simp) : Blk (w.alloc (.cells #[.int .i64 0, .int .i64 0, .int .i64 0, .bool false, .int .i64 0] 54)) (w.heap.size) [.int .i64 0, .int .i64 0, .int .i64 0, .bool false, .int .i64 0] 54).later (by repeat (first | exact Below.refl _ _ | refine belAlloc ?_ _))
      have rrF := Blk.keepF rrB
      replace rrB := Blk.keepB rrB
      clear hb2 hbel
      generalize w.alloc (.cells #[.int .i64 0, .int .i64 0, .int .i64 0, .bool false, .int .i64 0] 54) = W1 at *
      replace rr0 := keep rr0
      replace rr1 := keep rr1
      replace rr2 := keep rr2
      replace rr3 := keep rr3
      replace rr4 := keep rr4
      have hbel : Below W1.heap.size W1 W1 := Below.refl _ _
      skip
      go_wp2_with (first | (go_at_call 51; (with_reducible refine (HC1.out _ (belStep hw hbel)).mono ?_); rintro e w1 ⟨rfl, hb1⟩; replace hbel := belStep hbel hb1; clear hb1) | (go_at_call 51; (with_reducible refine (HC2.out _ (belStep hw hbel)).mono ?_); rintro e w1 ⟨rfl, hb1⟩; replace hbel := belStep hbel hb1; clear hb1) | (go_at_call 52; (with_reducible refine (HC3.out _).mono ?_); rintro e w' ⟨rfl, rfl⟩))
      exact ThrRead_ret _ _ _ 0 0 0 0 2 false _ rfl rfl ((((((rrB _ (belAlloc hbel _)).set 0 _).set 1 _).set 2 _).set 3 _).set 4 _) ⟨by rw [HV.out.1, HV.out.2]; rfl, by repeat (first | exact belStep hw hbel | refine belSet ?_ _ _ (Nat.le_refl _) | refine belAlloc ?_ _)⟩
    | true =>
      rw [h2] at C3
      cases h3 : limB (cutC 58 (cutC 60 s.toList).2.1).1 with
      | false =>
        rw [h3] at C4
        have HV := Lib.hid (hN (.inr (.inr (.inl h3))))
        clear C5 hN hS h1 h2 h3
        generalize (cutC 58 (cutC 60 s.toList).2.1).2.2 = sf at *
        have HC1 := Lib.hid C1
        have HC2 := Lib.hid C2
        have HC3 := Lib.hid C3
        have HC4 := Lib.hid C4
        clear C1 C2 C3 C4
        go_enter Tryz.func34, Tryz.ntmps34
        go_upto_region 1 with fail
        have rr0 : (w.alloc (.cells #[.int .i64 0, .int .i64 0, .int .i64 0, .bool false, .int .i64 0] 54)).cell? ⟨w.heap.size, 0, none⟩ = some (.int .i64 0) := by first | (simp; done) | (rw [World.cell?_alloc_at _ _ _ _ (by simp)]; rfl) | (rw [World.cell?_alloc_past _ _ _ (by simp <;> omega), World.cell?_alloc_at _ _ _ _ (by simp)]; rfl) | (rw [World.cell?_alloc_past _ _ _ (by simp <;> omega), World.cell?_alloc_past _ _ _ (by simp <;> omega), World.cell?_alloc_at _ _ _ _ (by simp)]; rfl)
        have rr1 : (w.alloc (.cells #[.int .i64 0, .int .i64 0, .int .i64 0, .bool false, .int .i64 0] 54)).cell? ⟨w.heap.size, 1, none⟩ = some (.int .i64 0) := by first | (simp; done) | (rw [World.cell?_alloc_at _ _ _ _ (by simp)]; rfl) | (rw [World.cell?_alloc_past _ _ _ (by simp <;> omega), World.cell?_alloc_at _ _ _ _ (by simp)]; rfl) | (rw [World.cell?_alloc_past _ _ _ (by simp <;> omega), World.cell?_alloc_past _ _ _ (by simp <;> omega), World.cell?_alloc_at _ _ _ _ (by simp)]; rfl)
        have rr2 : (w.alloc (.cells #[.int .i64 0, .int .i64 0, .int .i64 0, .bool false, .int .i64 0] 54)).cell? ⟨w.heap.size, 2, none⟩ = some (.int .i64 0) := by first | (simp; done) | (rw [World.cell?_alloc_at _ _ _ _ (by simp)]; rfl) | (rw [World.cell?_alloc_past _ _ _ (by simp <;> omega), World.cell?_alloc_at _ _ _ _ (by simp)]; rfl) | (rw [World.cell?_alloc_past _ _ _ (by simp <;> omega), World.cell?_alloc_past _ _ _ (by simp <;> omega), World.cell?_alloc_at _ _ _ _ (by simp)]; rfl)
        have rr3 : (w.alloc (.cells #[.int .i64 0, .int .i64 0, .int .i64 0, .bool false, .int .i64 0] 54)).cell? ⟨w.heap.size, 3, none⟩ = some (.bool false) := by first | (simp; done) | (rw [World.cell?_alloc_at _ _ _ _ (by simp)]; rfl) | (rw [World.cell?_alloc_past _ _ _ (by simp <;> omega), World.cell?_alloc_at _ _ _ _ (by simp)]; rfl) | (rw [World.cell?_alloc_past _ _ _ (by simp <;> omega), World.cell?_alloc_past _ _ _ (by simp <;> omega), World.cell?_alloc_at _ _ _ _ (by simp)]; rfl)
        have rr4 : (w.alloc (.cells #[.int .i64 0, .int .i64 0, .int .i64 0, .bool false, .int .i64 0] 54)).cell? ⟨w.heap.size, 4, none⟩ = some (.int .i64 0) := by first | (simp; done) | (rw [World.cell?_alloc_at _ _ _ _ (by simp)]; rfl) | (rw [World.cell?_alloc_past _ _ _ (by simp <;> omega), World.cell?_alloc_at _ _ _ _ (by simp)]; rfl) | (rw [World.cell?_alloc_past _ _ _ (by simp <;> omega), World.cell?_alloc_past _ _ _ (by simp <;> omega), World.cell?_alloc_at _ _ _ _ (by simp)]; rfl)
        have hb2 := (by repeat (first | exact hbel | refine belAlloc ?_ _ | refine belDrew ?_ | refine belSet ?_ _ _ (by simp)) : Below w.heap.size w (w.alloc (.cells #[.int .i64 0, .int .i64 0, .int .i64 0, .bool false, .int .i64 0] 54)))
        replace hw := belStep hw hb2
        have rrB : Blk (w.alloc (.cells #[.int .i64 0, .int .i64 0, .int .i64 0, .bool false, .int .i64 0] 54)) (w.heap.size) [.int .i64 0, .int .i64 0, .int .i64 0, .bool false, .int .i64 0] 54 := (Blk.at (by simp) : Blk (w.alloc (.cells #[.int .i64 0, .int .i64 0, .int .i64 0, .bool false, .int .i64 0] 54)) (w.heap.size) [.int .i64 0, .int .i64 0, .int .i64 0, .bool false, .int .i64 0] 54).later (by repeat (first | exact Below.refl _ _ | refine belAlloc ?_ _))
        have rrF := Blk.keepF rrB
        replace rrB := Blk.keepB rrB
        clear hb2 hbel
        generalize w.alloc (.cells #[.int .i64 0, .int .i64 0, .int .i64 0, .bool false, .int .i64 0] 54) = W1 at *
        replace rr0 := keep rr0
        replace rr1 := keep rr1
        replace rr2 := keep rr2
        replace rr3 := keep rr3
        replace rr4 := keep rr4
        have hbel : Below W1.heap.size W1 W1 := Below.refl _ _
        skip
        have hR1 : w.heap.size < W1.heap.size := (rrB _ (Below.refl _ _)).lt
        go_upto_region 7 with (first | (go_at_call 51; (with_reducible refine (HC1.out _ (belStep hw hbel)).mono ?_); rintro e w1 ⟨rfl, hb1⟩; replace hbel := belStep hbel hb1; clear hb1) | (go_at_call 51; (with_reducible refine (HC2.out _ (belStep hw hbel)).mono ?_); rintro e w1 ⟨rfl, hb1⟩; replace hbel := belStep hbel hb1; clear hb1) | (go_at_call 52; (with_reducible refine (HC3.out _).mono ?_); rintro e w' ⟨rfl, rfl⟩) | (go_at_call 53; (with_reducible refine (HC4.out w1.heap.size sg 0 sf _ (belStep hw (belAlloc hbel _)) (Blk.at rfl : Blk (w1.alloc (.cells [.int .i64 sg, .int .i64 0, .int .i64 0, .bool sf, .int .i64 0].toArray 54)) w1.heap.size [.int .i64 sg, .int .i64 0, .int .i64 0, .bool sf, .int .i64 0] 54)).mono ?_); rintro e w4 ⟨rfl, hb4, hl4⟩; have hMM := hbel.size; replace hbel := (belAlloc hbel _).trans (hl4.mono hMM); clear hl4))
        have rrB4 := rrB _ hbel
        have hRM : w.heap.size < w1.heap.size := by omega
        generalize w1.heap.size = M at *
        have m0 := hb4.cell (j := 0) rfl
        have m1 := hb4.cell (j := 1) rfl
        have m2 := hb4.cell (j := 2) rfl
        have m3 := hb4.cell (j := 3) rfl
        have m4 := hb4.cell (j := 4) rfl
        go_wp2
        exact ThrRead_ret _ _ _ 0 0 0 0 2 false _ rfl rfl (((((rrB4.set 0 _).set 1 _).set 2 _).set 3 _).set 4 _) ⟨by rw [HV.out.1, HV.out.2]; rfl, by repeat (first | exact belStep hw hbel | refine belSet ?_ _ _ (Nat.le_refl _) | refine belAlloc ?_ _)⟩
      | true =>
        rw [h3] at C4
        cases h4 : (cutC 58 (cutC 60 s.toList).2.1).2.2 with
        | false =>
          rw [h4] at C2
          have HV := Lib.hid (hS h1 h2 h3 (fun h => by rw [h4] at h; cases h))
          rw [h4] at HV
          clear C5 hN hS h1 h2 h3 h4
          have HC1 := Lib.hid C1
          have HC2 := Lib.hid C2
          have HC3 := Lib.hid C3
          have HC4 := Lib.hid C4
          clear C1 C2 C3 C4
          go_enter Tryz.func34, Tryz.ntmps34
          go_upto_region 1 with fail
          have rr0 : (w.alloc (.cells #[.int .i64 0, .int .i64 0, .int .i64 0, .bool false, .int .i64 0] 54)).cell? ⟨w.heap.size, 0, none⟩ = some (.int .i64 0) := by first | (simp; done) | (rw [World.cell?_alloc_at _ _ _ _ (by simp)]; rfl) | (rw [World.cell?_alloc_past _ _ _ (by simp <;> omega), World.cell?_alloc_at _ _ _ _ (by simp)]; rfl) | (rw [World.cell?_alloc_past _ _ _ (by simp <;> omega), World.cell?_alloc_past _ _ _ (by simp <;> omega), World.cell?_alloc_at _ _ _ _ (by simp)]; rfl)
          have rr1 : (w.alloc (.cells #[.int .i64 0, .int .i64 0, .int .i64 0, .bool false, .int .i64 0] 54)).cell? ⟨w.heap.size, 1, none⟩ = some (.int .i64 0) := by first | (simp; done) | (rw [World.cell?_alloc_at _ _ _ _ (by simp)]; rfl) | (rw [World.cell?_alloc_past _ _ _ (by simp <;> omega), World.cell?_alloc_at _ _ _ _ (by simp)]; rfl) | (rw [World.cell?_alloc_past _ _ _ (by simp <;> omega), World.cell?_alloc_past _ _ _ (by simp <;> omega), World.cell?_alloc_at _ _ _ _ (by simp)]; rfl)
          have rr2 : (w.alloc (.cells #[.int .i64 0, .int .i64 0, .int .i64 0, .bool false, .int .i64 0] 54)).cell? ⟨w.heap.size, 2, none⟩ = some (.int .i64 0) := by first | (simp; done) | (rw [World.cell?_alloc_at _ _ _ _ (by simp)]; rfl) | (rw [World.cell?_alloc_past _ _ _ (by simp <;> omega), World.cell?_alloc_at _ _ _ _ (by simp)]; rfl) | (rw [World.cell?_alloc_past _ _ _ (by simp <;> omega), World.cell?_alloc_past _ _ _ (by simp <;> omega), World.cell?_alloc_at _ _ _ _ (by simp)]; rfl)
          have rr3 : (w.alloc (.cells #[.int .i64 0, .int .i64 0, .int .i64 0, .bool false, .int .i64 0] 54)).cell? ⟨w.heap.size, 3, none⟩ = some (.bool false) := by first | (simp; done) | (rw [World.cell?_alloc_at _ _ _ _ (by simp)]; rfl) | (rw [World.cell?_alloc_past _ _ _ (by simp <;> omega), World.cell?_alloc_at _ _ _ _ (by simp)]; rfl) | (rw [World.cell?_alloc_past _ _ _ (by simp <;> omega), World.cell?_alloc_past _ _ _ (by simp <;> omega), World.cell?_alloc_at _ _ _ _ (by simp)]; rfl)
          have rr4 : (w.alloc (.cells #[.int .i64 0, .int .i64 0, .int .i64 0, .bool false, .int .i64 0] 54)).cell? ⟨w.heap.size, 4, none⟩ = some (.int .i64 0) := by first | (simp; done) | (rw [World.cell?_alloc_at _ _ _ _ (by simp)]; rfl) | (rw [World.cell?_alloc_past _ _ _ (by simp <;> omega), World.cell?_alloc_at _ _ _ _ (by simp)]; rfl) | (rw [World.cell?_alloc_past _ _ _ (by simp <;> omega), World.cell?_alloc_past _ _ _ (by simp <;> omega), World.cell?_alloc_at _ _ _ _ (by simp)]; rfl)
          have hb2 := (by repeat (first | exact hbel | refine belAlloc ?_ _ | refine belDrew ?_ | refine belSet ?_ _ _ (by simp)) : Below w.heap.size w (w.alloc (.cells #[.int .i64 0, .int .i64 0, .int .i64 0, .bool false, .int .i64 0] 54)))
          replace hw := belStep hw hb2
          have rrB : Blk (w.alloc (.cells #[.int .i64 0, .int .i64 0, .int .i64 0, .bool false, .int .i64 0] 54)) (w.heap.size) [.int .i64 0, .int .i64 0, .int .i64 0, .bool false, .int .i64 0] 54 := (Blk.at (by simp) : Blk (w.alloc (.cells #[.int .i64 0, .int .i64 0, .int .i64 0, .bool false, .int .i64 0] 54)) (w.heap.size) [.int .i64 0, .int .i64 0, .int .i64 0, .bool false, .int .i64 0] 54).later (by repeat (first | exact Below.refl _ _ | refine belAlloc ?_ _))
          have rrF := Blk.keepF rrB
          replace rrB := Blk.keepB rrB
          clear hb2 hbel
          generalize w.alloc (.cells #[.int .i64 0, .int .i64 0, .int .i64 0, .bool false, .int .i64 0] 54) = W1 at *
          replace rr0 := keep rr0
          replace rr1 := keep rr1
          replace rr2 := keep rr2
          replace rr3 := keep rr3
          replace rr4 := keep rr4
          have hbel : Below W1.heap.size W1 W1 := Below.refl _ _
          skip
          have hR1 : w.heap.size < W1.heap.size := (rrB _ (Below.refl _ _)).lt
          go_upto_region 7 with (first | (go_at_call 51; (with_reducible refine (HC1.out _ (belStep hw hbel)).mono ?_); rintro e w1 ⟨rfl, hb1⟩; replace hbel := belStep hbel hb1; clear hb1) | (go_at_call 51; (with_reducible refine (HC2.out _ (belStep hw hbel)).mono ?_); rintro e w1 ⟨rfl, hb1⟩; replace hbel := belStep hbel hb1; clear hb1) | (go_at_call 52; (with_reducible refine (HC3.out _).mono ?_); rintro e w' ⟨rfl, rfl⟩) | (go_at_call 53; (with_reducible refine (HC4.out w1.heap.size sg 0 false _ (belStep hw (belAlloc hbel _)) (Blk.at rfl : Blk (w1.alloc (.cells [.int .i64 sg, .int .i64 0, .int .i64 0, .bool false, .int .i64 0].toArray 54)) w1.heap.size [.int .i64 sg, .int .i64 0, .int .i64 0, .bool false, .int .i64 0] 54)).mono ?_); rintro e w4 ⟨rfl, hb4, hl4⟩; have hMM := hbel.size; replace hbel := (belAlloc hbel _).trans (hl4.mono hMM); clear hl4))
          have rrB4 := rrB _ hbel
          have hRM : w.heap.size < w1.heap.size := by omega
          generalize w1.heap.size = M at *
          have m0 := hb4.cell (j := 0) rfl
          have m1 := hb4.cell (j := 1) rfl
          have m2 := hb4.cell (j := 2) rfl
          have m3 := hb4.cell (j := 3) rfl
          have m4 := hb4.cell (j := 4) rfl
          go_wp2
          exact ThrRead_ret _ _ _ sg lp la 0 0 false _ rfl rfl (((((rrB4.set 0 _).set 1 _).set 2 _).set 3 _).set 4 _) ⟨by rw [HV.out.1, HV.out.2]; rfl, by repeat (first | exact belStep hw hbel | refine belSet ?_ _ _ (Nat.le_refl _))⟩
        | true =>
          rw [h4] at C2
          cases h5 : dgB (cutC 58 (cutC 60 s.toList).2.1).2.1 1000 with
          | false =>
            rw [h5] at C5
            have HV := Lib.hid (hN (.inr (.inr (.inr ⟨h4, h5⟩))))
            clear hN hS h1 h2 h3 h4 h5
            have HC1 := Lib.hid C1
            have HC2 := Lib.hid C2
            have HC3 := Lib.hid C3
            have HC4 := Lib.hid C4
            have HC5 := Lib.hid C5
            clear C1 C2 C3 C4 C5
            go_enter Tryz.func34, Tryz.ntmps34
            go_upto_region 1 with fail
            have rr0 : (w.alloc (.cells #[.int .i64 0, .int .i64 0, .int .i64 0, .bool false, .int .i64 0] 54)).cell? ⟨w.heap.size, 0, none⟩ = some (.int .i64 0) := by first | (simp; done) | (rw [World.cell?_alloc_at _ _ _ _ (by simp)]; rfl) | (rw [World.cell?_alloc_past _ _ _ (by simp <;> omega), World.cell?_alloc_at _ _ _ _ (by simp)]; rfl) | (rw [World.cell?_alloc_past _ _ _ (by simp <;> omega), World.cell?_alloc_past _ _ _ (by simp <;> omega), World.cell?_alloc_at _ _ _ _ (by simp)]; rfl)
            have rr1 : (w.alloc (.cells #[.int .i64 0, .int .i64 0, .int .i64 0, .bool false, .int .i64 0] 54)).cell? ⟨w.heap.size, 1, none⟩ = some (.int .i64 0) := by first | (simp; done) | (rw [World.cell?_alloc_at _ _ _ _ (by simp)]; rfl) | (rw [World.cell?_alloc_past _ _ _ (by simp <;> omega), World.cell?_alloc_at _ _ _ _ (by simp)]; rfl) | (rw [World.cell?_alloc_past _ _ _ (by simp <;> omega), World.cell?_alloc_past _ _ _ (by simp <;> omega), World.cell?_alloc_at _ _ _ _ (by simp)]; rfl)
            have rr2 : (w.alloc (.cells #[.int .i64 0, .int .i64 0, .int .i64 0, .bool false, .int .i64 0] 54)).cell? ⟨w.heap.size, 2, none⟩ = some (.int .i64 0) := by first | (simp; done) | (rw [World.cell?_alloc_at _ _ _ _ (by simp)]; rfl) | (rw [World.cell?_alloc_past _ _ _ (by simp <;> omega), World.cell?_alloc_at _ _ _ _ (by simp)]; rfl) | (rw [World.cell?_alloc_past _ _ _ (by simp <;> omega), World.cell?_alloc_past _ _ _ (by simp <;> omega), World.cell?_alloc_at _ _ _ _ (by simp)]; rfl)
            have rr3 : (w.alloc (.cells #[.int .i64 0, .int .i64 0, .int .i64 0, .bool false, .int .i64 0] 54)).cell? ⟨w.heap.size, 3, none⟩ = some (.bool false) := by first | (simp; done) | (rw [World.cell?_alloc_at _ _ _ _ (by simp)]; rfl) | (rw [World.cell?_alloc_past _ _ _ (by simp <;> omega), World.cell?_alloc_at _ _ _ _ (by simp)]; rfl) | (rw [World.cell?_alloc_past _ _ _ (by simp <;> omega), World.cell?_alloc_past _ _ _ (by simp <;> omega), World.cell?_alloc_at _ _ _ _ (by simp)]; rfl)
            have rr4 : (w.alloc (.cells #[.int .i64 0, .int .i64 0, .int .i64 0, .bool false, .int .i64 0] 54)).cell? ⟨w.heap.size, 4, none⟩ = some (.int .i64 0) := by first | (simp; done) | (rw [World.cell?_alloc_at _ _ _ _ (by simp)]; rfl) | (rw [World.cell?_alloc_past _ _ _ (by simp <;> omega), World.cell?_alloc_at _ _ _ _ (by simp)]; rfl) | (rw [World.cell?_alloc_past _ _ _ (by simp <;> omega), World.cell?_alloc_past _ _ _ (by simp <;> omega), World.cell?_alloc_at _ _ _ _ (by simp)]; rfl)
            have hb2 := (by repeat (first | exact hbel | refine belAlloc ?_ _ | refine belDrew ?_ | refine belSet ?_ _ _ (by simp)) : Below w.heap.size w (w.alloc (.cells #[.int .i64 0, .int .i64 0, .int .i64 0, .bool false, .int .i64 0] 54)))
            replace hw := belStep hw hb2
            have rrB : Blk (w.alloc (.cells #[.int .i64 0, .int .i64 0, .int .i64 0, .bool false, .int .i64 0] 54)) (w.heap.size) [.int .i64 0, .int .i64 0, .int .i64 0, .bool false, .int .i64 0] 54 := (Blk.at (by simp) : Blk (w.alloc (.cells #[.int .i64 0, .int .i64 0, .int .i64 0, .bool false, .int .i64 0] 54)) (w.heap.size) [.int .i64 0, .int .i64 0, .int .i64 0, .bool false, .int .i64 0] 54).later (by repeat (first | exact Below.refl _ _ | refine belAlloc ?_ _))
            have rrF := Blk.keepF rrB
            replace rrB := Blk.keepB rrB
            clear hb2 hbel
            generalize w.alloc (.cells #[.int .i64 0, .int .i64 0, .int .i64 0, .bool false, .int .i64 0] 54) = W1 at *
            replace rr0 := keep rr0
            replace rr1 := keep rr1
            replace rr2 := keep rr2
            replace rr3 := keep rr3
            replace rr4 := keep rr4
            have hbel : Below W1.heap.size W1 W1 := Below.refl _ _
            skip
            have hR1 : w.heap.size < W1.heap.size := (rrB _ (Below.refl _ _)).lt
            go_upto_region 7 with (first | (go_at_call 51; (with_reducible refine (HC1.out _ (belStep hw hbel)).mono ?_); rintro e w1 ⟨rfl, hb1⟩; replace hbel := belStep hbel hb1; clear hb1) | (go_at_call 51; (with_reducible refine (HC2.out _ (belStep hw hbel)).mono ?_); rintro e w1 ⟨rfl, hb1⟩; replace hbel := belStep hbel hb1; clear hb1) | (go_at_call 52; (with_reducible refine (HC3.out _).mono ?_); rintro e w' ⟨rfl, rfl⟩) | (go_at_call 53; (with_reducible refine (HC4.out w1.heap.size sg 0 true _ (belStep hw (belAlloc hbel _)) (Blk.at rfl : Blk (w1.alloc (.cells [.int .i64 sg, .int .i64 0, .int .i64 0, .bool true, .int .i64 0].toArray 54)) w1.heap.size [.int .i64 sg, .int .i64 0, .int .i64 0, .bool true, .int .i64 0] 54)).mono ?_); rintro e w4 ⟨rfl, hb4, hl4⟩; have hMM := hbel.size; replace hbel := (belAlloc hbel _).trans (hl4.mono hMM); clear hl4))
            have rrB4 := rrB _ hbel
            have hRM : w.heap.size < w1.heap.size := by omega
            generalize w1.heap.size = M at *
            have m0 := hb4.cell (j := 0) rfl
            have m1 := hb4.cell (j := 1) rfl
            have m2 := hb4.cell (j := 2) rfl
            have m3 := hb4.cell (j := 3) rfl
            have m4 := hb4.cell (j := 4) rfl
            clear m0 m1 m2 m3 m4 rr0 rr1 rr2 rr3 rr4 rrF rrB
            have hw4 := belStep hw hbel
            clear hbel hMM
            have m0 := keep (hb4.cell (j := 0) rfl)
            have m1 := keep (hb4.cell (j := 1) rfl)
            have m2 := keep (hb4.cell (j := 2) rfl)
            have m3 := keep (hb4.cell (j := 3) rfl)
            have m4 := keep (hb4.cell (j := 4) rfl)
            have r0 := keep (rrB4.cell (j := 0) rfl)
            have r1 := keep (rrB4.cell (j := 1) rfl)
            have r2 := keep (rrB4.cell (j := 2) rfl)
            have r3 := keep (rrB4.cell (j := 3) rfl)
            have r4 := keep (rrB4.cell (j := 4) rfl)
            have mF := hb4.keepF
            have rF := rrB4.keepF
            have hbel : Below w4.heap.size w4 w4 := Below.refl _ _
            have hM4 := hb4.lt
            go_wp2_with (first | (go_at_call 54; (with_reducible refine (HC5.out _ (belStep hw4 hbel)).mono ?_); rintro e w1 ⟨rfl, hb1⟩; replace hbel := belStep hbel hb1; clear hb1))
            exact ThrRead_ret _ _ _ 0 0 0 0 2 false _ rfl rfl (((((((rrB4.later hbel).far (show M ≠ w.heap.size by omega) _).set 0 _).set 1 _).set 2 _).set 3 _).set 4 _) ⟨by rw [HV.out.1, HV.out.2]; rfl, by repeat (first | exact by repeat (first | exact belStep hw4 hbel | refine belSet ?_ _ _ (Nat.le_refl _) | refine belSet ?_ _ _ (Nat.le_of_lt hRM)) | refine belSet ?_ _ _ (Nat.le_refl _) | refine belAlloc ?_ _)⟩
          | true =>
            rw [h5] at C5
            have HV := Lib.hid (hS h1 h2 h3 (fun _ => h5))
            rw [h4] at HV
            clear hN hS h1 h2 h3 h4 h5
            have HC1 := Lib.hid C1
            have HC2 := Lib.hid C2
            have HC3 := Lib.hid C3
            have HC4 := Lib.hid C4
            have HC5 := Lib.hid C5
            clear C1 C2 C3 C4 C5
            go_enter Tryz.func34, Tryz.ntmps34
            go_upto_region 1 with fail
            have rr0 : (w.alloc (.cells #[.int .i64 0, .int .i64 0, .int .i64 0, .bool false, .int .i64 0] 54)).cell? ⟨w.heap.size, 0, none⟩ = some (.int .i64 0) := by first | (simp; done) | (rw [World.cell?_alloc_at _ _ _ _ (by simp)]; rfl) | (rw [World.cell?_alloc_past _ _ _ (by simp <;> omega), World.cell?_alloc_at _ _ _ _ (by simp)]; rfl) | (rw [World.cell?_alloc_past _ _ _ (by simp <;> omega), World.cell?_alloc_past _ _ _ (by simp <;> omega), World.cell?_alloc_at _ _ _ _ (by simp)]; rfl)
            have rr1 : (w.alloc (.cells #[.int .i64 0, .int .i64 0, .int .i64 0, .bool false, .int .i64 0] 54)).cell? ⟨w.heap.size, 1, none⟩ = some (.int .i64 0) := by first | (simp; done) | (rw [World.cell?_alloc_at _ _ _ _ (by simp)]; rfl) | (rw [World.cell?_alloc_past _ _ _ (by simp <;> omega), World.cell?_alloc_at _ _ _ _ (by simp)]; rfl) | (rw [World.cell?_alloc_past _ _ _ (by simp <;> omega), World.cell?_alloc_past _ _ _ (by simp <;> omega), World.cell?_alloc_at _ _ _ _ (by simp)]; rfl)
            have rr2 : (w.alloc (.cells #[.int .i64 0, .int .i64 0, .int .i64 0, .bool false, .int .i64 0] 54)).cell? ⟨w.heap.size, 2, none⟩ = some (.int .i64 0) := by first | (simp; done) | (rw [World.cell?_alloc_at _ _ _ _ (by simp)]; rfl) | (rw [World.cell?_alloc_past _ _ _ (by simp <;> omega), World.cell?_alloc_at _ _ _ _ (by simp)]; rfl) | (rw [World.cell?_alloc_past _ _ _ (by simp <;> omega), World.cell?_alloc_past _ _ _ (by simp <;> omega), World.cell?_alloc_at _ _ _ _ (by simp)]; rfl)
            have rr3 : (w.alloc (.cells #[.int .i64 0, .int .i64 0, .int .i64 0, .bool false, .int .i64 0] 54)).cell? ⟨w.heap.size, 3, none⟩ = some (.bool false) := by first | (simp; done) | (rw [World.cell?_alloc_at _ _ _ _ (by simp)]; rfl) | (rw [World.cell?_alloc_past _ _ _ (by simp <;> omega), World.cell?_alloc_at _ _ _ _ (by simp)]; rfl) | (rw [World.cell?_alloc_past _ _ _ (by simp <;> omega), World.cell?_alloc_past _ _ _ (by simp <;> omega), World.cell?_alloc_at _ _ _ _ (by simp)]; rfl)
            have rr4 : (w.alloc (.cells #[.int .i64 0, .int .i64 0, .int .i64 0, .bool false, .int .i64 0] 54)).cell? ⟨w.heap.size, 4, none⟩ = some (.int .i64 0) := by first | (simp; done) | (rw [World.cell?_alloc_at _ _ _ _ (by simp)]; rfl) | (rw [World.cell?_alloc_past _ _ _ (by simp <;> omega), World.cell?_alloc_at _ _ _ _ (by simp)]; rfl) | (rw [World.cell?_alloc_past _ _ _ (by simp <;> omega), World.cell?_alloc_past _ _ _ (by simp <;> omega), World.cell?_alloc_at _ _ _ _ (by simp)]; rfl)
            have hb2 := (by repeat (first | exact hbel | refine belAlloc ?_ _ | refine belDrew ?_ | refine belSet ?_ _ _ (by simp)) : Below w.heap.size w (w.alloc (.cells #[.int .i64 0, .int .i64 0, .int .i64 0, .bool false, .int .i64 0] 54)))
            replace hw := belStep hw hb2
            have rrB : Blk (w.alloc (.cells #[.int .i64 0, .int .i64 0, .int .i64 0, .bool false, .int .i64 0] 54)) (w.heap.size) [.int .i64 0, .int .i64 0, .int .i64 0, .bool false, .int .i64 0] 54 := (Blk.at (by simp) : Blk (w.alloc (.cells #[.int .i64 0, .int .i64 0, .int .i64 0, .bool false, .int .i64 0] 54)) (w.heap.size) [.int .i64 0, .int .i64 0, .int .i64 0, .bool false, .int .i64 0] 54).later (by repeat (first | exact Below.refl _ _ | refine belAlloc ?_ _))
            have rrF := Blk.keepF rrB
            replace rrB := Blk.keepB rrB
            clear hb2 hbel
            generalize w.alloc (.cells #[.int .i64 0, .int .i64 0, .int .i64 0, .bool false, .int .i64 0] 54) = W1 at *
            replace rr0 := keep rr0
            replace rr1 := keep rr1
            replace rr2 := keep rr2
            replace rr3 := keep rr3
            replace rr4 := keep rr4
            have hbel : Below W1.heap.size W1 W1 := Below.refl _ _
            skip
            have hR1 : w.heap.size < W1.heap.size := (rrB _ (Below.refl _ _)).lt
            go_upto_region 7 with (first | (go_at_call 51; (with_reducible refine (HC1.out _ (belStep hw hbel)).mono ?_); rintro e w1 ⟨rfl, hb1⟩; replace hbel := belStep hbel hb1; clear hb1) | (go_at_call 51; (with_reducible refine (HC2.out _ (belStep hw hbel)).mono ?_); rintro e w1 ⟨rfl, hb1⟩; replace hbel := belStep hbel hb1; clear hb1) | (go_at_call 52; (with_reducible refine (HC3.out _).mono ?_); rintro e w' ⟨rfl, rfl⟩) | (go_at_call 53; (with_reducible refine (HC4.out w1.heap.size sg 0 true _ (belStep hw (belAlloc hbel _)) (Blk.at rfl : Blk (w1.alloc (.cells [.int .i64 sg, .int .i64 0, .int .i64 0, .bool true, .int .i64 0].toArray 54)) w1.heap.size [.int .i64 sg, .int .i64 0, .int .i64 0, .bool true, .int .i64 0] 54)).mono ?_); rintro e w4 ⟨rfl, hb4, hl4⟩; have hMM := hbel.size; replace hbel := (belAlloc hbel _).trans (hl4.mono hMM); clear hl4))
            have rrB4 := rrB _ hbel
            have hRM : w.heap.size < w1.heap.size := by omega
            generalize w1.heap.size = M at *
            have m0 := hb4.cell (j := 0) rfl
            have m1 := hb4.cell (j := 1) rfl
            have m2 := hb4.cell (j := 2) rfl
            have m3 := hb4.cell (j := 3) rfl
            have m4 := hb4.cell (j := 4) rfl
            clear m0 m1 m2 m3 m4 rr0 rr1 rr2 rr3 rr4 rrF rrB
            have hw4 := belStep hw hbel
            clear hbel hMM
            have m0 := keep (hb4.cell (j := 0) rfl)
            have m1 := keep (hb4.cell (j := 1) rfl)
            have m2 := keep (hb4.cell (j := 2) rfl)
            have m3 := keep (hb4.cell (j := 3) rfl)
            have m4 := keep (hb4.cell (j := 4) rfl)
            have r0 := keep (rrB4.cell (j := 0) rfl)
            have r1 := keep (rrB4.cell (j := 1) rfl)
            have r2 := keep (rrB4.cell (j := 2) rfl)
            have r3 := keep (rrB4.cell (j := 3) rfl)
            have r4 := keep (rrB4.cell (j := 4) rfl)
            have mF := hb4.keepF
            have rF := rrB4.keepF
            have hbel : Below w4.heap.size w4 w4 := Below.refl _ _
            have hM4 := hb4.lt
            go_wp2_with (first | (go_at_call 54; (with_reducible refine (HC5.out _ (belStep hw4 hbel)).mono ?_); rintro e w1 ⟨rfl, hb1⟩; replace hbel := belStep hbel hb1; clear hb1))
            exact ThrRead_ret _ _ _ sg lp la gn 0 true _ rfl rfl ((((((rrB4.later hbel).far (show M ≠ w.heap.size by omega) _).set 0 _).set 1 _).set 2 _).set 3 _ |>.set 4 _) ⟨by rw [HV.out.1, HV.out.2]; rfl, by repeat (first | exact belStep hw4 hbel | refine belSet ?_ _ _ (Nat.le_refl _) | refine belSet ?_ _ _ (Nat.le_of_lt hRM))⟩
end Go.Proofs.YtcaenbobfneejaaGreatDoor
