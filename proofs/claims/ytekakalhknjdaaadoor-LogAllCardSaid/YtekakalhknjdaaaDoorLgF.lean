
/- Stage 27: the reference: Read: what its pieces tell. -/
import Derived.Test.YtekakalhknjdaaaDoorLgE
import Derived.Test.YtekakalhknjdaaaDoorLg8
namespace Go.Proofs.YtekakalhknjdaaaDoor
open Go.RowKit
set_option linter.unusedVariables false
set_option linter.unusedSimpArgs false
/-- What the loop over the words has found: the last kind whose word it is. -/
def kkF (p : List UInt8) : Nat → Int
  | 0 => 0
  | m + 1 => if kwE (m + 1) = p then ((m + 1 : Nat) : Int) else kkF p m
def kq (p : List UInt8) : Int := if idxE kwE p 17 < 0 then 0 else idxE kwE p 17
theorem kk_none {p : List UInt8} (h : ∀ j, 1 ≤ j → j < 17 → kwE j ≠ p) : ∀ m, m ≤ 16 → kkF p m = 0
  | 0, _ => rfl
  | m + 1, hm => by rw [kkF, if_neg (h (m + 1) (by omega) (by omega)), kk_none h m (by omega)]
theorem kk_end (p : List UInt8) : kkF p 16 = kq p := by
  by_cases h : ∃ j, j < 17 ∧ kwE j = p
  · obtain ⟨j, hj, rfl⟩ := h
    have h : ∀ j ∈ List.range 17, kkF (kwE j) 16 = kq (kwE j) := by decide +kernel
    exact h j (List.mem_range.2 hj)
  · have hn : ∀ j, j < 17 → kwE j ≠ p := fun j hj e => h ⟨j, hj, e⟩
    have hi : ∀ k, k ≤ 17 → idxE kwE p k = -1 := by
      intro k
      induction k with
      | zero => intro _; rfl
      | succ k ih => intro hk; unfold idxE; rw [if_pos (ih (by omega)), if_neg (hn k (by omega))]
    rw [kk_none (fun j _ hj => hn j hj) 16 (by omega)]
    unfold kq
    rw [hi 17 (by omega)]; rfl
theorem kq_bd (p : List UInt8) : 0 ≤ kq p ∧ kq p ≤ 16 := by
  have := idxE_bd kwE p 17
  unfold kq
  split <;> omega
theorem kk_bd (p : List UInt8) : ∀ m, 0 ≤ kkF p m ∧ kkF p m ≤ m
  | 0 => by simp [kkF]
  | m + 1 => by
    have := kk_bd p m
    unfold kkF
    split <;> push_cast <;> omega
def rdB (s : ByteArray) : Bool := (progF s.data.toList).isSome
theorem rr_yes {s : ByteArray} {P : List (List UInt8)} {r : Int} {e : EvV} (hP : cutsL 32 s.data.toList = P) (h : readR P = some (r, e, [])) (hl : lineE r e = some s.data.toList) : rdR s = r ∧ rdE s = e ∧ rdB s = true := by
  have hq : progF s.data.toList = some (r, e) := by
    rw [same_F]; unfold refF; rw [hP, h]; simp [hl]
  unfold rdR rdE rdB
  rw [hq]; exact ⟨rfl, rfl, rfl⟩
theorem rr_none {s : ByteArray} (hq : progF s.data.toList = none) : rdR s = 0 ∧ rdE s = EvV.zero ∧ rdB s = false := by
  unfold rdR rdE rdB
  rw [hq]; exact ⟨rfl, rfl, rfl⟩
theorem rr_no1 {s : ByteArray} {P : List (List UInt8)} (hP : cutsL 32 s.data.toList = P) (h : readR P = none) : rdR s = 0 ∧ rdE s = EvV.zero ∧ rdB s = false := rr_none (by rw [same_F]; unfold refF; rw [hP, h])
theorem rr_no2 {s : ByteArray} {P : List (List UInt8)} {r : Int} {e : EvV} {l : List (List UInt8)} (hP : cutsL 32 s.data.toList = P) (h : readR P = some (r, e, l)) (hl : ¬ (lineE r e = some s.data.toList ∧ l = [])) : rdR s = 0 ∧ rdE s = EvV.zero ∧ rdB s = false := rr_none (by rw [same_F]; unfold refF; rw [hP, h]; simp only; rw [if_neg hl])
theorem own_at {w : World} {B n c : Nat} {T : TypeId} {a : Option Addr} {cs : List Value} (h : OwnR w B T 1 (.slice a n c) n cs) (h0 : 0 < n) : ∃ g, a = some ⟨g, 0, none⟩ ∧ g < w.heap.size ∧ B ≤ g ∧ n ≤ c ∧ c ≤ maxLen ∧ ∀ j x, cs[j]? = some x → w.cell? ⟨g, j, none⟩ = some x := by
  have h' := h
  obtain ⟨h1, h2⟩ := h
  rcases h2 with ⟨e, rfl⟩ | ⟨g, cap, cur, e, hg, hh, hl, hm, hc, ht⟩
  · exact absurd h0 (by omega)
  · cases e
    refine ⟨g, rfl, (Array.getElem?_eq_some_iff.1 hh).1, hg, hl, hm, fun j x hx => ?_⟩
    have := World.ownsRow.cells h' (g := g) rfl j x hx
    have e : (⟨g, 0, none⟩ : Addr).add j = ⟨g, j, none⟩ := by cases j <;> simp [Addr.add]
    rw [e] at this
    exact this
theorem read_fin27 {W : World} {a b c d x y : Value} {z : Nat} {T : TypeId} (h : Blk W z [a, b, c, d] T) (t : Array Value) (h2 : t.getD 2 undef = x) (h3 : t.getD 3 undef = .pointer (some ⟨z, 0, none⟩)) (h4 : t.getD 4 undef = y) : (results Tryd.f15 t).run Tryd.prog W = .ok (.tuple #[x, .agg #[a, b, c, d], y]) W := by
  have p0 := h.cell (j := 0) rfl
  have p1 := h.cell (j := 1) rfl
  have p2 := h.cell (j := 2) rfl
  have p3 := h.cell (j := 3) rfl
  have h2' : t[2]?.getD undef = x := by rw [← h2]; simp
  have h3' : t[3]?.getD undef = .pointer (some ⟨z, 0, none⟩) := by rw [← h3]; simp
  have h4' : t[4]?.getD undef = y := by rw [← h4]; simp
  simp [results, Tryd.results15, go_sem, h2', h3', h4', p0, p1, p2, p3]
theorem rln_no' {r : Int} {e : EvV} {x : Ending} (h : lineE r e = none) (hr : RlnP r e x) : ∃ t, x = .returned (.tuple #[.string t, .bool false]) := by unfold RlnP at hr; rw [h] at hr; exact hr
theorem rln_yes' {r : Int} {e : EvV} {s : List UInt8} {x : Ending} (h : lineE r e = some s) (hr : RlnP r e x) : x = .returned (.tuple #[.string (bA s), .bool true]) := by unfold RlnP at hr; rw [h] at hr; exact hr
theorem numQ_in (l : List UInt8) : InI (numQ l) := by have := numQ_bd l; exact ⟨by omega, by omega⟩
/-- The event that the reference reads of the pieces. -/
def readK (r k : Int) (p2 : List UInt8) (R : List (List UInt8)) : Option (Int × EvV × List (List UInt8)) :=
  let named := k ≠ 6 ∧ k ≠ 7 ∧ k ≠ 16
  let id := if named then bA p2 else ⟨#[]⟩
  let rest := if named then R else p2 :: R
  if k = 3 then
    match rest with
    | [] => none
    | x :: rest =>
      let n : Int := if x = pressL then 3 else if x = roomL then 4 else 0
      if n = 3 then
        match rest with
        | [] => none
        | y :: rest => some (r, ⟨k, id, idxE sgE y 3, n⟩, rest)
      else some (r, ⟨k, id, 0, n⟩, rest)
  else if 5 ≤ k ∧ k ≤ 7 then
    match rest with
    | [] => none
    | y :: rest => some (r, ⟨k, id, idxE sgE y 3, 0⟩, rest)
  else if k = 9 ∨ k = 14 ∨ k = 16 then
    match rest with
    | [] => none
    | y :: rest => some (r, ⟨k, id, 0, numQ y⟩, rest)
  else some (r, ⟨k, id, 0, 0⟩, rest)
theorem readR_eq (p0 p1 p2 : List UInt8) (R : List (List UInt8)) (hR : R.length ≤ 2) : readR (p0 :: p1 :: p2 :: R) = readK (numQ p0) (kq p1) p2 R := by
  unfold readR
  rw [if_neg (by simp only [List.length_cons]; omega)]
  rfl
theorem press_ne : ¬ pressL = roomL := by decide
set_option maxRecDepth 100000 in
set_option maxHeartbeats 64000000 in
theorem rf_Read27_0 (s : ByteArray) (w : World) (hs : s.size ≤ 1000000) (hq : (cutsL 32 s.data.toList).length < 3 ∨ 5 < (cutsL 32 s.data.toList).length) :
    Calls Tryd.prog 15 #[.string s] w fun e0 w' => e0 = .returned (.tuple #[.int .i64 (rdR s), (rdE s).v, .bool (rdB s)]) ∧ Below w.heap.size w w' := by
  have HS := Lib.hid hs
  obtain ⟨P, hP⟩ : ∃ P, cutsL 32 s.data.toList = P := ⟨_, rfl⟩
  have hlen := cuts_len 32 s.data.toList
  have CS := Lib.hid (fun u => rf_split27 s u hs)
  rw [hP] at hlen CS
  have hsz : s.data.toList.length = s.size := rfl
  rw [hsz] at hlen
  have hL : P.length ≤ maxLen := by unfold maxLen; omega
  have HP := Lib.hid hP
  have hP0 : 0 < P.length := by have := cuts_ne 32 s.data.toList; rw [hP] at this; exact List.length_pos_iff.2 this
  have HSZ := Lib.hid (fun x hx => Nat.le_trans (hlen.2 x hx) hs)
  rw [hP] at hq
  clear hP hs hsz hlen
  go_enter Tryd.func15, Tryd.ntmps15
  go_upto_region 2 with (go_at_call 31; (with_reducible refine (CS.out _).mono ?_); rintro e9 v1 ⟨⟨a, c, rfl, hO⟩, hb1⟩; have HO := Lib.hid hO; have HB1 := Lib.hid hb1; clear hO hb1 CS)
  have hs0 : (w.alloc (.cells #[.int .i64 0, .string ⟨#[]⟩, .int .i64 0, .int .i64 0] 23)).heap.size = w.heap.size + 1 := by simp
  have HZ := Lib.hid ((Blk.new w [.int .i64 0, .string ⟨#[]⟩, .int .i64 0, .int .i64 0] 23).later HB1.out)
  have HB := Lib.hid ((belAlloc (Below.refl w.heap.size w) (.cells #[.int .i64 0, .string ⟨#[]⟩, .int .i64 0, .int .i64 0] 23)).trans (HB1.out.mono (by omega)))
  have hzl := HZ.out.lt
  obtain ⟨g, rfl, hgl, hgB, hnc, hcm, hcel⟩ := own_at HO.out hP0
  rw [hs0] at hgB
  have HC := Lib.hid hcel
  clear hcel hs0 HB1 HO
  generalize hzb : w.heap.size = zb at *
  have HZB := Lib.hid hzb
  clear hzb
  unfold maxLen at hcm hL
  by_cases h3 : P.length < 3
  · have t1 : decide ((P.length : Int) < 3) = true := decide_eq_true (by omega)
    have HN := Lib.hid (rr_no1 HP.out (by unfold readR; rw [if_pos (by omega)]))
    have z0 := HZ.out.cell (j := 0) rfl
    have z1 := HZ.out.cell (j := 1) rfl
    have z2 := HZ.out.cell (j := 2) rfl
    have z3 := HZ.out.cell (j := 3) rfl
    have zf := HZ.out.frozen
    go_wp2
    rw [HN.out.1, HN.out.2.1, HN.out.2.2]
    exact bodyPost_ret (read_fin27 (Blk.set ((Blk.set ((Blk.set ((Blk.set (HZ.out) 0 (.int .i64 0))) 1 (.string ⟨#[]⟩))) 2 (.int .i64 0))) 3 (.int .i64 0)) _ rfl rfl rfl) rfl ⟨rfl, by rw [HZB.out]; exact (belLow6 ((belLow6 ((belLow6 ((belLow6 (HB.out) ⟨zb, 0, none⟩ (.int .i64 0) (Nat.le_refl _))) ⟨zb, 1, none⟩ (.string ⟨#[]⟩) (Nat.le_refl _))) ⟨zb, 2, none⟩ (.int .i64 0) (Nat.le_refl _))) ⟨zb, 3, none⟩ (.int .i64 0) (Nat.le_refl _))⟩
  · have t1 : decide ((P.length : Int) < 3) = false := decide_eq_false (by omega)
    have t2 : decide ((5 : Int) < (P.length : Int)) = true := decide_eq_true (by omega)
    have HN := Lib.hid (rr_no1 HP.out (by unfold readR; rw [if_pos (by omega)]))
    have z0 := HZ.out.cell (j := 0) rfl
    have z1 := HZ.out.cell (j := 1) rfl
    have z2 := HZ.out.cell (j := 2) rfl
    have z3 := HZ.out.cell (j := 3) rfl
    have zf := HZ.out.frozen
    go_wp2
    rw [HN.out.1, HN.out.2.1, HN.out.2.2]
    exact bodyPost_ret (read_fin27 (Blk.set ((Blk.set ((Blk.set ((Blk.set (HZ.out) 0 (.int .i64 0))) 1 (.string ⟨#[]⟩))) 2 (.int .i64 0))) 3 (.int .i64 0)) _ rfl rfl rfl) rfl ⟨rfl, by rw [HZB.out]; exact (belLow6 ((belLow6 ((belLow6 ((belLow6 (HB.out) ⟨zb, 0, none⟩ (.int .i64 0) (Nat.le_refl _))) ⟨zb, 1, none⟩ (.string ⟨#[]⟩) (Nat.le_refl _))) ⟨zb, 2, none⟩ (.int .i64 0) (Nat.le_refl _))) ⟨zb, 3, none⟩ (.int .i64 0) (Nat.le_refl _))⟩
end Go.Proofs.YtekakalhknjdaaaDoor
