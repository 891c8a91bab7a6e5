
/- thresh.digits, strings.Cut at one byte: contracts. thresh.word, Signal, limit: contracts. -/
import Derived.Test.YtekakalhknjdaaaDoorQuantA
import Derived.Test.YtekakalhknjdaaaDoorQuantCard
import Derived.Test.YtekakalhknjdaaaDoorShelfT
namespace Go.Proofs.YtekakalhknjdaaaDoor
open Go.RowKit
set_option linter.unusedVariables false
set_option linter.unusedSimpArgs false

theorem var_later {w w' : World} {n : String} {cs : Array Value} (h : w.var? Tryd.prog n = some cs) (hb : Below w.heap.size w w') : w'.var? Tryd.prog n = some cs := by
  unfold World.var? at *
  cases hg : Tryd.prog.globalNamed n with
  | none => simp [hg] at h
  | some g =>
    simp only [hg, Option.bind_some] at h ⊢
    have hlt : g < w.heap.size := by
      rcases Nat.lt_or_ge g w.heap.size with h' | h'
      · exact h'
      · rw [Array.getElem?_eq_none h'] at h; simp at h
    rw [hb.block g hlt]
    exact h
/-- What the library's variables hold. -/
structure Env (w : World) : Prop where
  tab : Tab w
  ml : ∃ m : Int, w.cell? ⟨1, 0, none⟩ = some (.int .i64 m)
  sy : ∃ (tp : TypeId) (p : Value), w.var? Tryd.prog "strconv.ErrSyntax" = some #[.iface tp p]
  ra : ∃ (tp : TypeId) (p : Value), w.var? Tryd.prog "strconv.ErrRange" = some #[.iface tp p]
theorem Env.later {w w' : World} (h : Env w) (hb : Below w.heap.size w w') : Env w' := by
  obtain ⟨h1, ⟨m, h2⟩, ⟨t3, p3, h3⟩, ⟨t4, p4, h4⟩⟩ := h
  exact ⟨h1.later hb, ⟨m, cell_later hb h2⟩, ⟨t3, p3, var_later h3 hb⟩, ⟨t4, p4, var_later h4 hb⟩⟩

def bAt (l : List UInt8) : ByteArray := ⟨l.toArray⟩
theorem bAt_list (l : List UInt8) : (bAt l).toList = l := by rw [sl]; rfl
theorem bAt_of (s : ByteArray) : bAt s.toList = s := by rw [sl]; rfl
theorem atoi_ok (s : ByteArray) (v : Int) (w : World) (hs : s.size ≤ 1000000) (h : Lib.atoiAll s.toList = .ok v) : Calls Tryd.prog 41 #[.string s] w fun e w' => e = .returned (.tuple #[.int .i64 v, .nilIface]) ∧ Below w.heap.size w w' := by
  rw [sl] at h
  refine (Tryd.strconv_Atoi_ok s (by omega) v h w).mono ?_
  rintro e w' ⟨rfl, rfl | ⟨t, rfl⟩⟩
  · exact ⟨rfl, Below.refl _ _⟩
  · exact ⟨rfl, Lib.bytesWorld_below _ _ _⟩
theorem atoi_err (s : ByteArray) (w : World) (hs : s.size ≤ 1000000) (he : Env w) (h : ∀ v, Lib.atoiAll s.toList ≠ .ok v) : Calls Tryd.prog 41 #[.string s] w fun e w' => ∃ (i : Int) (N : Nat), e = .returned (.tuple #[.int .i64 i, .iface 109 (.pointer (some ⟨N, 0, none⟩))]) ∧ Below w.heap.size w w' := by
  obtain ⟨_, _, ⟨t3, p3, h3⟩, ⟨t4, p4, h4⟩⟩ := he
  rw [sl] at h
  rcases hq : Lib.atoiAll s.data.toList with v | _ | _
  · exact absurd hq (h v)
  · refine (Any.strconv_Atoi_syntax_var Tryd.laysC172 s (by omega) hq t3 p3 w h3).mono ?_
    rintro e w' ⟨N, rfl, _, _, hb⟩
    exact ⟨_, N, rfl, hb⟩
  · refine (Any.strconv_Atoi_range_var Tryd.laysC172 s (by omega) hq t4 p4 w h4).mono ?_
    rintro e w' ⟨N, rfl, _, _, hb⟩
    exact ⟨_, N, rfl, hb⟩

def dgN (l : List UInt8) (m : Int) : Int := (dgv l m).getD 0
def dgB (l : List UInt8) (m : Int) : Bool := (dgv l m).isSome
theorem dgv_atoi {l : List UInt8} {m n : Int} (hm : m ≤ 1000) (h : dgv l m = some n) : Lib.atoiAll l = .ok n := by
  obtain ⟨h1, h2, h3⟩ := dgv_some hm h
  have := atoi_dd n.toNat (by omega)
  rw [← h3, Int.toNat_of_nonneg (by omega)] at this
  exact this
end Go.Proofs.YtekakalhknjdaaaDoor
namespace Go.Proofs.YtekakalhknjdaaaDoor
open Go.RowKit
set_option linter.unusedVariables false
set_option linter.unusedSimpArgs false

def wB (i : Int) : ByteArray := if i = 0 then ⟨#[109, 101, 109, 111, 114, 121]⟩ else if i = 1 then ⟨#[100, 105, 115, 107]⟩ else if i = 2 then ⟨#[112, 105, 100]⟩ else ⟨#[]⟩
def sigN (l : List UInt8) : Int := (sigF l).getD 0
def sigB (l : List UInt8) : Bool := (sigF l).isSome
theorem wB_list (k : Nat) (h : k < 3) : (wB k).toList = if k = 0 then [109, 101, 109, 111, 114, 121] else if k = 1 then [100, 105, 115, 107] else [112, 105, 100] := by
  rcases (show k = 0 ∨ k = 1 ∨ k = 2 by omega) with rfl | rfl | rfl <;> (rw [sl]; rfl)
theorem sig_hit (s : ByteArray) (k : Nat) (h : k < 3) (he : (s.toList == (wB k).toList) = true) : sigN s.toList = k ∧ sigB s.toList = true := by
  have e : s.toList = (wB k).toList := by simpa using he
  rw [e, wB_list k h]
  rcases (show k = 0 ∨ k = 1 ∨ k = 2 by omega) with rfl | rfl | rfl <;> exact ⟨rfl, rfl⟩
theorem sig_miss (s : ByteArray) (h : ∀ k : Nat, k < 3 → (s.toList == (wB k).toList) = false) : sigN s.toList = 0 ∧ sigB s.toList = false := by
  have h0 := h 0 (by omega)
  have h1 := h 1 (by omega)
  have h2 := h 2 (by omega)
  rw [wB_list _ (by omega)] at h0 h1 h2
  simp at h0 h1 h2
  unfold sigN sigB sigF
  rw [if_neg h0, if_neg h1, if_neg h2]
  exact ⟨rfl, rfl⟩
/-- What a limit's reading leaves: percent and amount. -/
def limP (l : List UInt8) : Int := if (cutC 37 l).2.2 then dgN (cutC 37 l).1 100 else 0
def limA (l : List UInt8) : Int := if (cutC 37 l).2.2 then 0 else qN l
def limB (l : List UInt8) : Bool := (limF l).isSome
theorem limF_some {l : List UInt8} {p a : Int} (h : limF l = some (p, a)) : limP l = p ∧ limA l = a := by
  unfold limF at h
  unfold limP limA
  split at h
  · rename_i h1
    rw [if_pos h1, if_pos h1]
    split at h
    · unfold dgN
      cases hq : dgv (cutC 37 l).1 100 with
      | none => rw [hq] at h; cases h
      | some n => rw [hq] at h; simp at h; exact ⟨h.1, h.2.symm ▸ rfl⟩
    · cases h
  · rename_i h1
    rw [if_neg h1, if_neg h1]
    split at h
    · rename_i h2
      simp at h
      unfold qN; rw [if_pos h2.1]
      exact ⟨h.1, h.2⟩
    · cases h
end Go.Proofs.YtekakalhknjdaaaDoor
