
/- Frames as lists of bytes: plain mathematics. -/
import Derived.Test.YtcbblgeleboggaaSumBurst
namespace Go.Proofs.Ytcbblgeleboggaa
open Go.RowKit
set_option linter.unusedVariables false

def mark4 : List Int := [66, 76, 71, 49]
def headL (v : Nat) (l : List Int) : List Int := mark4 ++ (tailN v 4 ++ (tailN l.length 4 ++ l))
def withSum (h : List Int) : List Int := h ++ tailN (sumOf h) 4
def frameL (v : Nat) (l : List Int) : List Int := withSum (headL v l)
theorem headL_len (v : Nat) (l : List Int) : (headL v l).length = l.length + 12 := by
  unfold headL mark4; simp [tailN_len]; omega
theorem frameL_len (v : Nat) (l : List Int) : (frameL v l).length = l.length + 16 := by
  unfold frameL withSum; rw [List.length_append, tailN_len, headL_len]
theorem tailN_B (X n : Nat) : Bytes (tailN X n) := tailN_Bytes X n
theorem Bytes.app {a b : List Int} (ha : Bytes a) (hb : Bytes b) : Bytes (a ++ b) := fun c hc => (List.mem_append.1 hc).elim (ha c) (hb c)
theorem Bytes.drop {l : List Int} (h : Bytes l) (k : Nat) : Bytes (l.drop k) := fun c hc => h c (List.mem_of_mem_drop hc)
theorem mark4_B : Bytes mark4 := by intro c hc; simp [mark4] at hc; omega
theorem headL_B {v : Nat} {l : List Int} (h : Bytes l) : Bytes (headL v l) := mark4_B.app ((tailN_B _ _).app ((tailN_B _ _).app h))
theorem withSum_B {h : List Int} (hb : Bytes h) : Bytes (withSum h) := hb.app (tailN_B _ _)
theorem frameL_B {v : Nat} {l : List Int} (h : Bytes l) : Bytes (frameL v l) := withSum_B (headL_B h)

/-- The number of bytes, the lowest first. -/
def numW (l : List Int) : Nat := l.foldr (fun c n => c.toNat + 256 * n) 0
theorem numW_lt {l : List Int} (h : Bytes l) : numW l < 256 ^ l.length := by
  induction l with
  | nil => simp [numW]
  | cons c l ih =>
    have := ih (fun x hx => h x (List.mem_cons_of_mem _ hx))
    have hc := h c List.mem_cons_self
    show c.toNat + 256 * numW l < 256 ^ (l.length + 1)
    rw [Nat.pow_succ]
    omega
theorem tailN_succ (X n : Nat) : tailN X (n + 1) = ((X % 256 : Nat) : Int) :: tailN (X / 256) n := by
  rw [tailN_get, tailN_get, List.range_succ_eq_map, List.map_cons, List.map_map]
  congr 1
  · simp
  · refine List.map_congr_left fun k _ => ?_
    simp only [Function.comp]
    rw [Nat.pow_succ, Nat.mul_comm, Nat.div_div_eq_div_mul]
theorem tailN_numW {l : List Int} (h : Bytes l) : tailN (numW l) l.length = l := by
  induction l with
  | nil => rfl
  | cons c l ih =>
    have hc := h c List.mem_cons_self
    show tailN (c.toNat + 256 * numW l) (l.length + 1) = _
    rw [tailN_succ, show (c.toNat + 256 * numW l) / 256 = numW l by omega, ih (fun x hx => h x (List.mem_cons_of_mem _ hx)), show (c.toNat + 256 * numW l) % 256 = c.toNat by omega]
    congr 1; omega
theorem numW_tailN (n : Nat) : ∀ X : Nat, X < 256 ^ n → numW (tailN X n) = X := by
  induction n with
  | zero => intro X h; simp at h; subst h; rfl
  | succ n ih =>
    intro X h
    rw [Nat.pow_succ] at h
    rw [tailN_succ]
    show Int.toNat ((X % 256 : Nat) : Int) + 256 * numW (tailN (X / 256) n) = X
    rw [ih _ (by omega), Int.toNat_natCast]; omega
theorem tailN_inj {X Y n : Nat} (hX : X < 256 ^ n) (hY : Y < 256 ^ n) (h : tailN X n = tailN Y n) : X = Y := by
  rw [← numW_tailN n X hX, ← numW_tailN n Y hY, h]

theorem cutOk_iff {b : List Int} : cutOk b = true ↔ ∃ h, b = withSum h := by
  constructor
  · intro hc
    unfold cutOk at hc
    simp only [Bool.and_eq_true, decide_eq_true_eq, beq_iff_eq] at hc
    refine ⟨b.take (b.length - 4), ?_⟩
    unfold withSum
    rw [← hc.2]; exact (List.take_append_drop _ _).symm
  · rintro ⟨h, rfl⟩; exact put_ok h
theorem withSum_inj {h k : List Int} (e : withSum h = withSum k) : h = k := by
  have := congrArg cutBody e
  unfold withSum at this
  rwa [put_body, put_body] at this

theorem app_inj4 {a b : Nat} {r s : List Int} (ha : a < 4294967296) (hb : b < 4294967296) (h : tailN a 4 ++ r = tailN b 4 ++ s) : a = b ∧ r = s := by
  have h1 := List.append_inj h (by rw [tailN_len, tailN_len])
  exact ⟨tailN_inj (n := 4) (by omega) (by omega) h1.1, h1.2⟩
/-- Of two frames, whatever stands behind the one: the same numbers ahead. -/
theorem headL_inj {v u : Nat} {l m r s : List Int} (hv : v < 4294967296) (hu : u < 4294967296) (hl : l.length < 4294967296) (hm : m.length < 4294967296) (h : headL v l ++ r = headL u m ++ s) : v = u ∧ l.length = m.length ∧ l ++ r = m ++ s := by
  unfold headL at h
  simp only [List.append_assoc] at h
  have h1 := List.append_cancel_left h
  have h2 := app_inj4 hv hu h1
  have h3 := app_inj4 hl hm h2.2
  exact ⟨h2.1, h3.1, h3.2⟩
/-- A frame isn't the beginning of another one, but of itself. -/
theorem frameL_pre {v u : Nat} {l m r : List Int} (hv : v < 4294967296) (hu : u < 4294967296) (hl : l.length < 4294967296) (hm : m.length < 4294967296) (h : frameL v l ++ r = frameL u m) : r = [] ∧ v = u ∧ l = m := by
  have hlen := congrArg List.length h
  rw [List.length_append, frameL_len, frameL_len] at hlen
  have h' := h
  unfold frameL withSum at h
  rw [List.append_assoc] at h
  obtain ⟨h1, h2, h3⟩ := headL_inj hv hu hl hm h
  have hr : r = [] := List.eq_nil_of_length_eq_zero (by omega)
  subst hr
  rw [List.append_nil] at h'
  subst h1
  have := withSum_inj h'
  refine ⟨rfl, rfl, ?_⟩
  unfold headL at this
  rw [← h2] at this
  exact List.append_cancel_left (List.append_cancel_left (List.append_cancel_left this))

/-- Is it a frame, and of what? -/
def IsFrame (b : List Int) (v : Nat) (x : List Int) : Prop := b = frameL v x ∧ v < 4294967296 ∧ x.length ≤ 1048576
def NoFrame (b : List Int) : Prop := ∀ v x, ¬ IsFrame b v x
theorem frame_cases (b : List Int) : (∃ v x, IsFrame b v x) ∨ NoFrame b := by
  rcases Classical.em (∃ v x, IsFrame b v x) with h | h
  · exact .inl h
  · exact .inr fun v x hx => h ⟨v, x, hx⟩
theorem IsFrame.one {b : List Int} {v u : Nat} {x y : List Int} (h : IsFrame b v x) (k : IsFrame b u y) : v = u ∧ x = y := by
  obtain ⟨e1, h2, h3⟩ := h
  obtain ⟨e2, k2, k3⟩ := k
  have := frameL_pre (l := x) (m := y) (r := []) h2 k2 (by omega) (by omega) (by rw [List.append_nil, ← e1, ← e2])
  exact this.2
theorem IsFrame.len {b : List Int} {v : Nat} {x : List Int} (h : IsFrame b v x) : b.length = x.length + 16 := by rw [h.1, frameL_len]
theorem IsFrame.bytes {b : List Int} {v : Nat} {x : List Int} (h : IsFrame b v x) (hb : Bytes b) : Bytes x := fun c hc => hb c (by
  rw [h.1]; unfold frameL withSum headL
  simp [hc])
theorem no_short {b : List Int} (h : b.length < 16) : NoFrame b := fun v x k => by have := k.len; omega
theorem no_prefix {b r : List Int} {v : Nat} {x : List Int} (h : IsFrame (b ++ r) v x) (hr : r ≠ []) : NoFrame b := fun u y k => by
  obtain ⟨e1, h2, h3⟩ := h
  obtain ⟨e2, k2, k3⟩ := k
  rw [e2] at e1
  exact hr (frameL_pre (l := y) (m := x) k2 h2 (by omega) (by omega) e1).1
theorem no_more {b r : List Int} {v : Nat} {x : List Int} (h : IsFrame b v x) (hr : r ≠ []) : NoFrame (b ++ r) := fun u y k => by
  obtain ⟨e1, h2, h3⟩ := h
  obtain ⟨e2, k2, k3⟩ := k
  rw [e1] at e2
  exact hr (frameL_pre (l := x) (m := y) h2 k2 (by omega) (by omega) e2).1

/-- The tests of the program, on what stands ahead of the sum. -/
def bodyOk (h : List Int) : Bool := decide (12 ≤ h.length) && (h.take 4 == mark4) && decide (numW ((h.drop 8).take 4) = (h.drop 12).length) && decide (numW ((h.drop 8).take 4) ≤ 1048576)
theorem body_frame {h : List Int} (hb : Bytes h) (hk : bodyOk h = true) : IsFrame (withSum h) (numW ((h.drop 4).take 4)) (h.drop 12) := by
  unfold bodyOk at hk
  simp only [Bool.and_eq_true, decide_eq_true_eq, beq_iff_eq] at hk
  obtain ⟨⟨⟨h1, h2⟩, h3⟩, h4⟩ := hk
  have l1 : ((h.drop 4).take 4).length = 4 := by simp; omega
  have l2 : ((h.drop 8).take 4).length = 4 := by simp; omega
  have t1 := tailN_numW (((hb.drop 4).take 4))
  have t2 := tailN_numW (((hb.drop 8).take 4))
  have n1 := numW_lt ((hb.drop 4).take 4)
  rw [l1] at t1 n1
  rw [l2] at t2
  refine ⟨?_, by omega, by rw [← h3]; exact h4⟩
  have e : h = headL (numW ((h.drop 4).take 4)) (h.drop 12) := by
    unfold headL
    rw [t1, ← h3, t2, ← h2]
    have a1 := (List.take_append_drop 4 h).symm
    have a2 := (List.take_append_drop 4 (h.drop 4)).symm
    have a3 := (List.take_append_drop 4 (h.drop 8)).symm
    rw [List.drop_drop] at a2 a3
    rw [← a3, ← a2, ← a1]
  show withSum h = withSum _
  rw [← e]
theorem frame_body {v : Nat} {x : List Int} (hv : v < 4294967296) (hx : x.length ≤ 1048576) : bodyOk (headL v x) = true ∧ numW (((headL v x).drop 4).take 4) = v ∧ (headL v x).drop 12 = x ∧ numW (((headL v x).drop 8).take 4) = x.length := by
  have e4 : (headL v x).drop 4 = tailN v 4 ++ (tailN x.length 4 ++ x) := rfl
  have e8 : (headL v x).drop 8 = tailN x.length 4 ++ x := by rw [show (8 : Nat) = 4 + 4 by rfl, ← List.drop_drop, e4, List.drop_left' (tailN_len _ _)]
  have e12 : (headL v x).drop 12 = x := by rw [show (12 : Nat) = 8 + 4 by rfl, ← List.drop_drop, e8, List.drop_left' (tailN_len _ _)]
  have n4 : numW (((headL v x).drop 4).take 4) = v := by rw [e4, List.take_left' (tailN_len _ _), numW_tailN 4 v (by omega)]
  have n8 : numW (((headL v x).drop 8).take 4) = x.length := by rw [e8, List.take_left' (tailN_len _ _), numW_tailN 4 x.length (by omega)]
  refine ⟨?_, n4, e12, n8⟩
  unfold bodyOk
  rw [n8, e12, headL_len]
  simp [hx]
  rfl
/-- What the program tells a frame by. -/
theorem isFrame_iff {b : List Int} (hb : Bytes b) : (cutOk b = true ∧ bodyOk (cutBody b) = true) ↔ ∃ v x, IsFrame b v x := by
  constructor
  · rintro ⟨h1, h2⟩
    obtain ⟨h, rfl⟩ := cutOk_iff.1 h1
    have e : cutBody (withSum h) = h := put_body h
    rw [e] at h2
    exact ⟨_, _, body_frame (fun c hc => hb c (by unfold withSum; simp [hc])) h2⟩
  · rintro ⟨v, x, rfl, hv, hx⟩
    refine ⟨put_ok _, ?_⟩
    have e : cutBody (frameL v x) = headL v x := put_body _
    rw [e]
    exact (frame_body hv hx).1
end Go.Proofs.Ytcbblgeleboggaa
