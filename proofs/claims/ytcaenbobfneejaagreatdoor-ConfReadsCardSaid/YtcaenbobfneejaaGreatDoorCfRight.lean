
/- Stage 7: configs, by definition; as arguments. Stage 7: conf.rightNode: contract. Stage 7: conf.Right: contract. Stage 7: bilgeref07.Right: contract. -/
import Derived.Test.YtcaenbobfneejaaGreatDoorLexRM
import Derived.Test.YtcaenbobfneejaaGreatDoorLexTM
import Derived.Test.YtcaenbobfneejaaGreatDoorThrOpen
import Derived.Test.YtcaenbobfneejaaGreatDoorQuantB
import Derived.Test.YtcaenbobfneejaaGreatDoorThrPr
import Derived.Test.YtcaenbobfneejaaGreatDoorThrR

namespace Go.Proofs.YtcaenbobfneejaaGreatDoor
open Go.RowKit Go.WideShapes
set_option linter.unusedVariables false
set_option linter.unusedSimpArgs false
/-- A config. -/
structure CfM where
  k0 : Int
  k1 : Int
  k2 : Int
  a0 : Int
  a1 : Int
  a2 : Int
  T : List ThrV
  per : Int
  ret : Int
  age : Int
  dead : Int
def CfM.cells (c : CfM) (tv : Value) : List Value := [.int .i64 c.k0, .int .i64 c.k1, .int .i64 c.k2, .int .i64 c.a0, .int .i64 c.a1, .int .i64 c.a2, tv, .int .i64 c.per, .int .i64 c.ret, .int .i64 c.age, .int .i64 c.dead]
def CfM.v (c : CfM) (tv : Value) : Value := .agg #[.int .i64 c.k0, .int .i64 c.k1, .int .i64 c.k2, .int .i64 c.a0, .int .i64 c.a1, .int .i64 c.a2, tv, .int .i64 c.per, .int .i64 c.ret, .int .i64 c.age, .int .i64 c.dead]
def CfM.zero : CfM := ⟨0, 0, 0, 0, 0, 0, [], 0, 0, 0, 0⟩
structure CfM.ok (c : CfM) : Prop where
  ck : InI c.k0 ∧ InI c.k1 ∧ InI c.k2
  ca : InI c.a0 ∧ InI c.a1 ∧ InI c.a2
  cp : InI c.per ∧ InI c.ret ∧ InI c.age ∧ InI c.dead
  thr : ∀ t ∈ c.T, t.ok
def nodeM (c : CfM) : Bool := decide (0 < c.k0 ∧ 0 < c.k1 ∧ 0 < c.k2 ∧ 0 ≤ c.a0 ∧ 0 ≤ c.a1 ∧ 0 ≤ c.a2 ∧ c.a1 ≤ c.k0 ∧ c.a2 ≤ c.k2)
def thrM (T : List ThrV) : Bool := T.all ThrV.right && decide (T.length ≤ 12)
def numM (c : CfM) : Bool := decide (1 ≤ c.per ∧ c.per ≤ 1000 ∧ 1 ≤ c.age ∧ c.age ≤ 1000 ∧ 0 ≤ c.ret ∧ c.ret ≤ 20 ∧ 0 ≤ c.dead ∧ c.dead ≤ 100)
def rightM (c : CfM) : Bool := nodeM c && thrM c.T && numM c
def kwL : Nat → List UInt8
  | 0 => [99, 97, 112, 97, 99, 105, 116, 121]
  | 1 => [97, 108, 108, 111, 99, 97, 116, 97, 98, 108, 101]
  | 2 => [112, 101, 114, 105, 111, 100]
  | 3 => [114, 101, 116, 114, 105, 101, 115]
  | 4 => [109, 97, 120, 97, 103, 101]
  | _ => [100, 101, 97, 100]
def tkw : List UInt8 := [116, 104, 114, 101, 115, 104, 111, 108, 100]
def idxK (l : List UInt8) : Option Nat := if l = kwL 0 then some 0 else if l = kwL 1 then some 1 else if l = kwL 2 then some 2 else if l = kwL 3 then some 3 else if l = kwL 4 then some 4 else if l = kwL 5 then some 5 else none
def needN (k : Nat) : Nat := if k < 2 then 3 else 1
def setF (c : CfM) (k : Nat) (n : List Int) : CfM :=
  match k with
  | 0 => { c with k0 := n.getD 0 0, k1 := n.getD 1 0, k2 := n.getD 2 0 }
  | 1 => { c with a0 := n.getD 0 0, a1 := n.getD 1 0, a2 := n.getD 2 0 }
  | 2 => { c with per := n.getD 0 0 }
  | 3 => { c with ret := n.getD 0 0 }
  | 4 => { c with age := n.getD 0 0 }
  | _ => { c with dead := n.getD 0 0 }
/-- What has been read: the config, and the words seen. -/
structure CSt where
  c : CfM
  U : List Nat
def numsOk (r : List FldV) : Bool := r.all fun g => qOk g.text
def numsF (r : List FldV) : List Int := r.map fun g => qNum g.text
def lineR (s : CSt) : List FldV → Except Int CSt
  | [] => .error 2
  | f :: r =>
    if f.text = tkw then
      match r with
      | [g] => match thF g.text with
        | some t => .ok { s with c := { s.c with T := s.c.T ++ [t] } }
        | none => .error 2
      | _ => .error 2
    else match idxK f.text with
      | none => .error 2
      | some k => if r.length ≠ needN k ∨ numsOk r = false then .error 2 else if k ∈ s.U then .error 5 else .ok ⟨setF s.c k (numsF r), s.U ++ [k]⟩
def headLine (F : List FldV) : Int := (F.head?.map FldV.line).getD 0
def linesR : CSt → List (List FldV) → Except (Int × Int) CSt
  | s, [] => .ok s
  | s, F :: LL => match lineR s F with
    | .ok s' => linesR s' LL
    | .error e => .error (headLine F, e)
def CSt.zero : CSt := ⟨CfM.zero, []⟩
/-- P7.1: the config of a text, or where it is at fault, and the error. -/
def endR (s : CSt) : Except (Int × Int) CfM := if s.U.length < 6 then .error (0, 4) else if rightM s.c = false then .error (0, 1) else .ok s.c
def confF (L : List UInt8) : Except (Int × Int) CfM := if readB L = false then .error (0, 2) else match linesR CSt.zero (fieldsF L) with
  | .error x => .error x
  | .ok s => endR s
theorem ThrV.cells_len (t : ThrV) : t.cells.length = 5 := rfl
theorem list11 {l : List Value} (h : l.length = 11) : ∃ a b c d e f g i j k m, l = [a, b, c, d, e, f, g, i, j, k, m] := by
  match l, h with | [a, b, c, d, e, f, g, i, j, k, m], _ => exact ⟨a, b, c, d, e, f, g, i, j, k, m, rfl⟩
theorem rd_sl {w : World} {g : Value} (h : Rd Tryz.prog w 25 [g]) : ∃ ta tl tc, g = .slice ta tl tc := by
  rcases Rd.slice Tryz.underlying25 h with h0 | ⟨ad, len, cap, h1, _⟩
  · simp at h0; exact ⟨_, _, _, h0⟩
  · simp at h1; exact ⟨_, _, _, h1⟩
/-- A config as an argument. -/
structure CfA (c : CfM) (ta : Option Addr) (tc : Nat) (w : World) : Prop where
  ok : c.ok
  row : Row w ta c.T.length tc 5 (c.T.flatMap ThrV.cells)
theorem CfA.later {c : CfM} {ta : Option Addr} {tc : Nat} {w w' : World} (h : CfA c ta tc w) (hb : Below w.heap.size w w') : CfA c ta tc w' := ⟨h.ok, h.row.later hb⟩
theorem rd_cfg {w : World} {cs : List Value} (h : Rd Tryz.prog w 27 cs) : ∃ (c : CfM) (ta : Option Addr) (tc : Nat), Value.agg cs.toArray = c.v (.slice ta c.T.length tc) ∧ CfA c ta tc w := by
  obtain ⟨hl, hf⟩ := Rd.struct Tryz.underlying27 h
  rw [show Tryz.prog.cellsOf 27 = 11 by kernel_rfl] at hl
  obtain ⟨a, b, c, d, e, f, g, i, j, k, m, rfl⟩ := list11 hl
  have h0 := hf 0 _ rfl
  have h1 := hf 1 _ rfl
  have h2 := hf 2 _ rfl
  have h3 := hf 3 _ rfl
  have h4 := hf 4 _ rfl
  have h5 := hf 5 _ rfl
  have h6 := hf 6 _ rfl
  simp [show Tryz.prog.cellsOf 3 = 1 by kernel_rfl, show Tryz.prog.cellsOf 24 = 3 by kernel_rfl, show Tryz.prog.cellsOf 25 = 1 by kernel_rfl] at h0 h1 h2 h3 h4 h5 h6
  obtain ⟨x0, x1, x2, rfl, rfl, rfl, i0, i1, i2⟩ := rd_three h0
  obtain ⟨y0, y1, y2, rfl, rfl, rfl, j0, j1, j2⟩ := rd_three h1
  obtain ⟨ta, tl, tc, rfl⟩ := rd_sl h2
  obtain ⟨p, e3, w3⟩ := Rd.int Tryz.underlying3 h3
  obtain ⟨q, e4, w4⟩ := Rd.int Tryz.underlying3 h4
  obtain ⟨r, e5, w5⟩ := Rd.int Tryz.underlying3 h5
  obtain ⟨s, e6, w6⟩ := Rd.int Tryz.underlying3 h6
  simp at e3 e4 e5 e6
  subst e3 e4 e5 e6
  obtain ⟨L, hL1, hL2, hL3⟩ := Rd.rows ThrV.cells 5 Tryz.underlying25 (by kernel_rfl) (by omega) ThrV.cells_len ThrV.ok (fun es hes => rd_thr hes) h2
  subst hL1
  exact ⟨⟨x0, x1, x2, y0, y1, y2, L, p, q, r, s⟩, ta, tc, rfl, ⟨⟨i0, i1, i2⟩, ⟨j0, j1, j2⟩, ⟨inI_of_wf w3, inI_of_wf w4, inI_of_wf w5, inI_of_wf w6⟩, hL2⟩, hL3⟩
set_option maxRecDepth 100000 in
theorem open_cfg {H : Type} {enc : TypeId × Value → H} {W : World} {v : Value} {b : Nat} {d : DataW H} {p : List MemPlace} (o : Value.okWide Tryz.prog W .any b 27 v) (h : DataW.Trod enc Tryz.prog W 0 (fun _ => true) true 27 v d p) :
    ∃ (c : CfM) (ta : Option Addr) (tc : Nat), v = c.v (.slice ta c.T.length tc) ∧ CfA c ta tc W := by
  obtain ⟨cs, rfl⟩ := agg_of_struct Tryz.underlying27 o
  obtain ⟨c, ta, tc, hc, hok⟩ := rd_cfg (Rd.of h)
  rw [agg_cells] at hc
  exact ⟨c, ta, tc, by rw [← hc], hok⟩
end Go.Proofs.YtcaenbobfneejaaGreatDoor
namespace Go.Proofs.YtcaenbobfneejaaGreatDoor
open Go.RowKit
set_option linter.unusedVariables false
set_option linter.unusedSimpArgs false
theorem idx3_0 (x y z : Int) (w : World) : (Instr.index 24 (.agg #[.int .i64 x, .int .i64 y, .int .i64 z]) (.int .i64 0)).run Tryz.prog w = .ok (.int .i64 x) w := by kernel_rfl
theorem idx3_1 (x y z : Int) (w : World) : (Instr.index 24 (.agg #[.int .i64 x, .int .i64 y, .int .i64 z]) (.int .i64 1)).run Tryz.prog w = .ok (.int .i64 y) w := by kernel_rfl
theorem idx3_2 (x y z : Int) (w : World) : (Instr.index 24 (.agg #[.int .i64 x, .int .i64 y, .int .i64 z]) (.int .i64 2)).run Tryz.prog w = .ok (.int .i64 z) w := by kernel_rfl
set_option maxRecDepth 100000 in
set_option maxHeartbeats 16000000 in
theorem cf_node (c : CfM) (ta : Option Addr) (tc : Nat) (w : World) (hc : c.ok) :
    Calls Tryz.prog 26 #[.agg #[.int .i64 c.k0, .int .i64 c.k1, .int .i64 c.k2, .int .i64 c.a0, .int .i64 c.a1, .int .i64 c.a2, .slice ta c.T.length tc, .int .i64 c.per, .int .i64 c.ret, .int .i64 c.age, .int .i64 c.dead]] w fun e w' => e = .returned (.bool (nodeM c)) ∧ Below w.heap.size w w' := by
  have hw : Below w.heap.size w w := Below.refl _ _
  have hbel := hw
  obtain ⟨⟨⟨k01, k02⟩, ⟨k11, k12⟩, ⟨k21, k22⟩⟩, ⟨⟨a01, a02⟩, ⟨a11, a12⟩, ⟨a21, a22⟩⟩, _, _⟩ := hc
  have hi0 := idx3_0
  have hi1 := idx3_1
  have hi2 := idx3_2
  go_enter Tryz.func26, Tryz.ntmps26
  go_upto_region 1 with fail
  have cc0 : (w.alloc (.cells #[.int .i64 c.k0, .int .i64 c.k1, .int .i64 c.k2, .int .i64 c.a0, .int .i64 c.a1, .int .i64 c.a2, .slice ta c.T.length tc, .int .i64 c.per, .int .i64 c.ret, .int .i64 c.age, .int .i64 c.dead] 27)).cell? ⟨w.heap.size, 0, none⟩ = some (.int .i64 c.k0) := by first | (simp; done) | (rw [World.cell?_alloc_at _ _ _ _ (by simp)]; rfl) | (rw [World.cell?_alloc_past _ _ _ (by simp <;> omega), World.cell?_alloc_at _ _ _ _ (by simp)]; rfl) | (rw [World.cell?_alloc_past _ _ _ (by simp <;> omega), World.cell?_alloc_past _ _ _ (by simp <;> omega), World.cell?_alloc_at _ _ _ _ (by simp)]; rfl)
  have cc1 : (w.alloc (.cells #[.int .i64 c.k0, .int .i64 c.k1, .int .i64 c.k2, .int .i64 c.a0, .int .i64 c.a1, .int .i64 c.a2, .slice ta c.T.length tc, .int .i64 c.per, .int .i64 c.ret, .int .i64 c.age, .int .i64 c.dead] 27)).cell? ⟨w.heap.size, 1, none⟩ = some (.int .i64 c.k1) := by first | (simp; done) | (rw [World.cell?_alloc_at _ _ _ _ (by simp)]; rfl) | (rw [World.cell?_alloc_past _ _ _ (by simp <;> omega), World.cell?_alloc_at _ _ _ _ (by simp)]; rfl) | (rw [World.cell?_alloc_past _ _ _ (by simp <;> omega), World.cell?_alloc_past _ _ _ (by simp <;> omega), World.cell?_alloc_at _ _ _ _ (by simp)]; rfl)
  have cc2 : (w.alloc (.cells #[.int .i64 c.k0, .int .i64 c.k1, .int .i64 c.k2, .int .i64 c.a0, .int .i64 c.a1, .int .i64 c.a2, .slice ta c.T.length tc, .int .i64 c.per, .int .i64 c.ret, .int .i64 c.age, .int .i64 c.dead] 27)).cell? ⟨w.heap.size, 2, none⟩ = some (.int .i64 c.k2) := by first | (simp; done) | (rw [World.cell?_alloc_at _ _ _ _ (by simp)]; rfl) | (rw [World.cell?_alloc_past _ _ _ (by simp <;> omega), World.cell?_alloc_at _ _ _ _ (by simp)]; rfl) | (rw [World.cell?_alloc_past _ _ _ (by simp <;> omega), World.cell?_alloc_past _ _ _ (by simp <;> omega), World.cell?_alloc_at _ _ _ _ (by simp)]; rfl)
  have cc3 : (w.alloc (.cells #[.int .i64 c.k0, .int .i64 c.k1, .int .i64 c.k2, .int .i64 c.a0, .int .i64 c.a1, .int .i64 c.a2, .slice ta c.T.length tc, .int .i64 c.per, .int .i64 c.ret, .int .i64 c.age, .int .i64 c.dead] 27)).cell? ⟨w.heap.size, 3, none⟩ = some (.int .i64 c.a0) := by first | (simp; done) | (rw [World.cell?_alloc_at _ _ _ _ (by simp)]; rfl) | (rw [World.cell?_alloc_past _ _ _ (by simp <;> omega), World.cell?_alloc_at _ _ _ _ (by simp)]; rfl) | (rw [World.cell?_alloc_past _ _ _ (by simp <;> omega), World.cell?_alloc_past _ _ _ (by simp <;> omega), World.cell?_alloc_at _ _ _ _ (by simp)]; rfl)
  have cc4 : (w.alloc (.cells #[.int .i64 c.k0, .int .i64 c.k1, .int .i64 c.k2, .int .i64 c.a0, .int .i64 c.a1, .int .i64 c.a2, .slice ta c.T.length tc, .int .i64 c.per, .int .i64 c.ret, .int .i64 c.age, .int .i64 c.dead] 27)).cell? ⟨w.heap.size, 4, none⟩ = some (.int .i64 c.a1) := by first | (simp; done) | (rw [World.cell?_alloc_at _ _ _ _ (by simp)]; rfl) | (rw [World.cell?_alloc_past _ _ _ (by simp <;> omega), World.cell?_alloc_at _ _ _ _ (by simp)]; rfl) | (rw [World.cell?_alloc_past _ _ _ (by simp <;> omega), World.cell?_alloc_past _ _ _ (by simp <;> omega), World.cell?_alloc_at _ _ _ _ (by simp)]; rfl)
  have cc5 : (w.alloc (.cells #[.int .i64 c.k0, .int .i64 c.k1, .int .i64 c.k2, .int .i64 c.a0, .int .i64 c.a1, .int .i64 c.a2, .slice ta c.T.length tc, .int .i64 c.per, .int .i64 c.ret, .int .i64 c.age, .int .i64 c.dead] 27)).cell? ⟨w.heap.size, 5, none⟩ = some (.int .i64 c.a2) := by first | (simp; done) | (rw [World.cell?_alloc_at _ _ _ _ (by simp)]; rfl) | (rw [World.cell?_alloc_past _ _ _ (by simp <;> omega), World.cell?_alloc_at _ _ _ _ (by simp)]; rfl) | (rw [World.cell?_alloc_past _ _ _ (by simp <;> omega), World.cell?_alloc_past _ _ _ (by simp <;> omega), World.cell?_alloc_at _ _ _ _ (by simp)]; rfl)
  have cc6 : (w.alloc (.cells #[.int .i64 c.k0, .int .i64 c.k1, .int .i64 c.k2, .int .i64 c.a0, .int .i64 c.a1, .int .i64 c.a2, .slice ta c.T.length tc, .int .i64 c.per, .int .i64 c.ret, .int .i64 c.age, .int .i64 c.dead] 27)).cell? ⟨w.heap.size, 6, none⟩ = some (.slice ta c.T.length tc) := by first | (simp; done) | (rw [World.cell?_alloc_at _ _ _ _ (by simp)]; rfl) | (rw [World.cell?_alloc_past _ _ _ (by simp <;> omega), World.cell?_alloc_at _ _ _ _ (by simp)]; rfl) | (rw [World.cell?_alloc_past _ _ _ (by simp <;> omega), World.cell?_alloc_past _ _ _ (by simp <;> omega), World.cell?_alloc_at _ _ _ _ (by simp)]; rfl)
  have cc7 : (w.alloc (.cells #[.int .i64 c.k0, .int .i64 c.k1, .int .i64 c.k2, .int .i64 c.a0, .int .i64 c.a1, .int .i64 c.a2, .slice ta c.T.length tc, .int .i64 c.per, .int .i64 c.ret, .int .i64 c.age, .int .i64 c.dead] 27)).cell? ⟨w.heap.size, 7, none⟩ = some (.int .i64 c.per) := by first | (simp; done) | (rw [World.cell?_alloc_at _ _ _ _ (by simp)]; rfl) | (rw [World.cell?_alloc_past _ _ _ (by simp <;> omega), World.cell?_alloc_at _ _ _ _ (by simp)]; rfl) | (rw [World.cell?_alloc_past _ _ _ (by simp <;> omega), World.cell?_alloc_past _ _ _ (by simp <;> omega), World.cell?_alloc_at _ _ _ _ (by simp)]; rfl)
  have cc8 : (w.alloc (.cells #[.int .i64 c.k0, .int .i64 c.k1, .int .i64 c.k2, .int .i64 c.a0, .int .i64 c.a1, .int .i64 c.a2, .slice ta c.T.length tc, .int .i64 c.per, .int .i64 c.ret, .int .i64 c.age, .int .i64 c.dead] 27)).cell? ⟨w.heap.size, 8, none⟩ = some (.int .i64 c.ret) := by first | (simp; done) | (rw [World.cell?_alloc_at _ _ _ _ (by simp)]; rfl) | (rw [World.cell?_alloc_past _ _ _ (by simp <;> omega), World.cell?_alloc_at _ _ _ _ (by simp)]; rfl) | (rw [World.cell?_alloc_past _ _ _ (by simp <;> omega), World.cell?_alloc_past _ _ _ (by simp <;> omega), World.cell?_alloc_at _ _ _ _ (by simp)]; rfl)
  have cc9 : (w.alloc (.cells #[.int .i64 c.k0, .int .i64 c.k1, .int .i64 c.k2, .int .i64 c.a0, .int .i64 c.a1, .int .i64 c.a2, .slice ta c.T.length tc, .int .i64 c.per, .int .i64 c.ret, .int .i64 c.age, .int .i64 c.dead] 27)).cell? ⟨w.heap.size, 9, none⟩ = some (.int .i64 c.age) := by first | (simp; done) | (rw [World.cell?_alloc_at _ _ _ _ (by simp)]; rfl) | (rw [World.cell?_alloc_past _ _ _ (by simp <;> omega), World.cell?_alloc_at _ _ _ _ (by simp)]; rfl) | (rw [World.cell?_alloc_past _ _ _ (by simp <;> omega), World.cell?_alloc_past _ _ _ (by simp <;> omega), World.cell?_alloc_at _ _ _ _ (by simp)]; rfl)
  have cc10 : (w.alloc (.cells #[.int .i64 c.k0, .int .i64 c.k1, .int .i64 c.k2, .int .i64 c.a0, .int .i64 c.a1, .int .i64 c.a2, .slice ta c.T.length tc, .int .i64 c.per, .int .i64 c.ret, .int .i64 c.age, .int .i64 c.dead] 27)).cell? ⟨w.heap.size, 10, none⟩ = some (.int .i64 c.dead) := by first | (simp; done) | (rw [World.cell?_alloc_at _ _ _ _ (by simp)]; rfl) | (rw [World.cell?_alloc_past _ _ _ (by simp <;> omega), World.cell?_alloc_at _ _ _ _ (by simp)]; rfl) | (rw [World.cell?_alloc_past _ _ _ (by simp <;> omega), World.cell?_alloc_past _ _ _ (by simp <;> omega), World.cell?_alloc_at _ _ _ _ (by simp)]; rfl)
  have hb2 := (by repeat (first | exact hbel | refine belAlloc ?_ _ | refine belDrew ?_ | refine belSet ?_ _ _ (by simp)) : Below w.heap.size w (w.alloc (.cells #[.int .i64 c.k0, .int .i64 c.k1, .int .i64 c.k2, .int .i64 c.a0, .int .i64 c.a1, .int .i64 c.a2, .slice ta c.T.length tc, .int .i64 c.per, .int .i64 c.ret, .int .i64 c.age, .int .i64 c.dead] 27)))
  replace hw := belStep hw hb2
  clear hb2 hbel
  generalize w.alloc (.cells #[.int .i64 c.k0, .int .i64 c.k1, .int .i64 c.k2, .int .i64 c.a0, .int .i64 c.a1, .int .i64 c.a2, .slice ta c.T.length tc, .int .i64 c.per, .int .i64 c.ret, .int .i64 c.age, .int .i64 c.dead] 27) = W1 at *
  replace cc0 := keep cc0
  replace cc1 := keep cc1
  replace cc2 := keep cc2
  replace cc3 := keep cc3
  replace cc4 := keep cc4
  replace cc5 := keep cc5
  replace cc6 := keep cc6
  replace cc7 := keep cc7
  replace cc8 := keep cc8
  replace cc9 := keep cc9
  replace cc10 := keep cc10
  have hbel : Below W1.heap.size W1 W1 := Below.refl _ _
  skip
  have HW := Lib.hid hw
  clear hw
  go_wp2
  go_loopw [9] (fun i wr => ∃ m : Nat, m ≤ 3 ∧ i = .int .i64 m ∧ (0 < m → 0 < c.k0) ∧ (1 < m → 0 < c.k1) ∧ (2 < m → 0 < c.k2) ∧ W1 = wr) (fun i _ => 3 - (intOf i).toNat)
  case atStart => exact ⟨0, by omega, rfl, fun q => by omega, fun q => by omega, fun q => by omega, rfl⟩
  case round =>
    obtain ⟨m, hm, rfl, p0, p1, p2, rfl⟩ := hrel
    rcases (show m = 0 ∨ m = 1 ∨ m = 2 ∨ m = 3 by omega) with rfl | rfl | rfl | rfl
    · by_cases g : 0 < c.k0
      · have g9 : ¬ c.k0 ≤ 0 := by omega
        go_wp2
        go_roundw
        case rel => exact ⟨1, by omega, rfl, fun _ => by first | exact g | exact p0 (by omega), fun z => by first | omega | exact g | exact p1 (by omega), fun z => by first | omega | exact g | exact p2 (by omega), by first | rfl | trivial⟩
        case measure => simp [intOf]
      · have g9 : c.k0 ≤ 0 := by omega
        go_wp2
        go_ret
        exact ⟨congrArg (fun z => Ending.returned (.bool z)) (Eq.symm (show nodeM c = false from by unfold nodeM; exact decide_eq_false (by omega))), HW.out⟩
    · by_cases g : 0 < c.k1
      · have g9 : ¬ c.k1 ≤ 0 := by omega
        go_wp2
        go_roundw
        case rel => exact ⟨2, by omega, rfl, fun _ => by first | exact g | exact p0 (by omega), fun z => by first | omega | exact g | exact p1 (by omega), fun z => by first | omega | exact g | exact p2 (by omega), by first | rfl | trivial⟩
        case measure => simp [intOf]
      · have g9 : c.k1 ≤ 0 := by omega
        go_wp2
        go_ret
        exact ⟨congrArg (fun z => Ending.returned (.bool z)) (Eq.symm (show nodeM c = false from by unfold nodeM; exact decide_eq_false (by omega))), HW.out⟩
    · by_cases g : 0 < c.k2
      · have g9 : ¬ c.k2 ≤ 0 := by omega
        go_wp2
        go_roundw
        case rel => exact ⟨3, by omega, rfl, fun _ => by first | exact g | exact p0 (by omega), fun z => by first | omega | exact g | exact p1 (by omega), fun z => by first | omega | exact g | exact p2 (by omega), by first | rfl | trivial⟩
        case measure => simp [intOf]
      · have g9 : c.k2 ≤ 0 := by omega
        go_wp2
        go_ret
        exact ⟨congrArg (fun z => Ending.returned (.bool z)) (Eq.symm (show nodeM c = false from by unfold nodeM; exact decide_eq_false (by omega))), HW.out⟩
    · replace p0 := p0 (by omega)
      replace p1 := p1 (by omega)
      replace p2 := p2 (by omega)
      have f0 := p0
      have f1 := p1
      have f2 := p2
      clear p0 p1 p2
      go_wp2
      go_loopw [17] (fun i wr => ∃ m : Nat, m ≤ 3 ∧ i = .int .i64 m ∧ (0 < m → 0 ≤ c.a0) ∧ (1 < m → 0 ≤ c.a1) ∧ (2 < m → 0 ≤ c.a2) ∧ W1 = wr) (fun i _ => 3 - (intOf i).toNat)
      case atStart => exact ⟨0, by omega, rfl, fun q => by omega, fun q => by omega, fun q => by omega, rfl⟩
      case round =>
        obtain ⟨m, hm, rfl, p0, p1, p2, rfl⟩ := hrel
        rcases (show m = 0 ∨ m = 1 ∨ m = 2 ∨ m = 3 by omega) with rfl | rfl | rfl | rfl
        · by_cases g : 0 ≤ c.a0
          · have g9 : ¬ c.a0 < 0 := by omega
            go_wp2
            go_roundw
            case rel => exact ⟨1, by omega, rfl, fun _ => by first | exact g | exact p0 (by omega), fun z => by first | omega | exact g | exact p1 (by omega), fun z => by first | omega | exact g | exact p2 (by omega), by first | rfl | trivial⟩
            case measure => simp [intOf]
          · have g9 : c.a0 < 0 := by omega
            go_wp2
            go_ret
            exact ⟨congrArg (fun z => Ending.returned (.bool z)) (Eq.symm (show nodeM c = false from by unfold nodeM; exact decide_eq_false (by omega))), HW.out⟩
        · by_cases g : 0 ≤ c.a1
          · have g9 : ¬ c.a1 < 0 := by omega
            go_wp2
            go_roundw
            case rel => exact ⟨2, by omega, rfl, fun _ => by first | exact g | exact p0 (by omega), fun z => by first | omega | exact g | exact p1 (by omega), fun z => by first | omega | exact g | exact p2 (by omega), by first | rfl | trivial⟩
            case measure => simp [intOf]
          · have g9 : c.a1 < 0 := by omega
            go_wp2
            go_ret
            exact ⟨congrArg (fun z => Ending.returned (.bool z)) (Eq.symm (show nodeM c = false from by unfold nodeM; exact decide_eq_false (by omega))), HW.out⟩
        · by_cases g : 0 ≤ c.a2
          · have g9 : ¬ c.a2 < 0 := by omega
            go_wp2
            go_roundw
            case rel => exact ⟨3, by omega, rfl, fun _ => by first | exact g | exact p0 (by omega), fun z => by first | omega | exact g | exact p1 (by omega), fun z => by first | omega | exact g | exact p2 (by omega), by first | rfl | trivial⟩
            case measure => simp [intOf]
          · have g9 : c.a2 < 0 := by omega
            go_wp2
            go_ret
            exact ⟨congrArg (fun z => Ending.returned (.bool z)) (Eq.symm (show nodeM c = false from by unfold nodeM; exact decide_eq_false (by omega))), HW.out⟩
        · replace p0 := p0 (by omega)
          replace p1 := p1 (by omega)
          replace p2 := p2 (by omega)
          have e0 := p0
          have e1 := p1
          have e2 := p2
          clear p0 p1 p2
          by_cases q1 : c.a1 ≤ c.k0
          · have d1 : decide (c.a1 ≤ c.k0) = true := decide_eq_true q1
            by_cases q2 : c.a2 ≤ c.k2
            · have d2 : decide (c.a2 ≤ c.k2) = true := decide_eq_true q2
              go_wp2
              go_ret
              exact ⟨congrArg (fun z => Ending.returned (.bool z)) (Eq.symm (show nodeM c = true from by unfold nodeM; exact decide_eq_true ⟨f0, f1, f2, e0, e1, e2, q1, q2⟩)), HW.out⟩
            · have d2 : decide (c.a2 ≤ c.k2) = false := decide_eq_false q2
              go_wp2
              go_ret
              exact ⟨congrArg (fun z => Ending.returned (.bool z)) (Eq.symm (show nodeM c = false from by unfold nodeM; exact decide_eq_false (by omega))), HW.out⟩
          · have d1 : decide (c.a1 ≤ c.k0) = false := decide_eq_false q1
            go_wp2
            go_ret
            exact ⟨congrArg (fun z => Ending.returned (.bool z)) (Eq.symm (show nodeM c = false from by unfold nodeM; exact decide_eq_false (by omega))), HW.out⟩
end Go.Proofs.YtcaenbobfneejaaGreatDoor
namespace Go.Proofs.YtcaenbobfneejaaGreatDoor
open Go.RowKit
set_option linter.unusedVariables false
set_option linter.unusedSimpArgs false
set_option maxRecDepth 100000 in
set_option maxHeartbeats 16000000 in
theorem cf_thr (a : Option Addr) (len cap : Nat) (L : List ThrV) (w : World) (hl : L.length = len) (hR : Row w a len cap 5 (L.flatMap ThrV.cells)) (hg : ∀ t ∈ L, t.ok) :
    Calls Tryz.prog 27 #[.slice a len cap] w fun e w' => e = .returned (.bool (thrM L)) ∧ Below w.heap.size w w' := by
  have hw : Below w.heap.size w w := Below.refl _ _
  have hbd_a : len ≤ cap ∧ cap ≤ 9223372036854775807 := by obtain ⟨_, h1, h2, _⟩ := hR; unfold maxLen at h2; exact ⟨h1, h2⟩
  obtain ⟨hbd1_a, hbd2_a⟩ := hbd_a
  have HR := Lib.hid hR
  clear hR
  subst hl
  have HG := Lib.hid hg
  clear hg
  go_enter Tryz.func27, Tryz.ntmps27
  go_wp2
  go_loopw [7] (fun i wr => ∃ k : Nat, k ≤ L.length ∧ i = .int .i64 k ∧ Hid ((L.take k).all ThrV.right = true) ∧ Below w.heap.size w wr) (fun i _ => L.length - (intOf i).toNat)
  case atStart => exact ⟨0, Nat.zero_le _, rfl, Lib.hid rfl, hw⟩
  case round =>
    clear hw
    obtain ⟨k, hk, rfl, HC, hbel⟩ := hrel
    by_cases hlt : k < L.length
    · have hd : decide ((k : Int) < (L.length : Int)) = true := decide_eq_true (by omega)
      have hki : (k : Int) < (L.length : Int) := by omega
      have hk0 : (0 : Int) ≤ (k : Int) := by omega
      obtain ⟨x, hx⟩ : ∃ x, L[k]? = some x := ⟨L[k], List.getElem?_eq_getElem hlt⟩
      obtain ⟨bc, oc, ec, _, hcc⟩ := (HR.out).elem ThrV.cells_len (by omega) hx
      subst ec
      have c0 := keep (hcc 0 _ rfl)
      have c1 := keep (hcc 1 _ rfl)
      have c2 := keep (hcc 2 _ rfl)
      have c3 := keep (hcc 3 _ rfl)
      have c4 := keep (hcc 4 _ rfl)
      rw [Nat.add_zero] at c0
      have HX := Lib.hid hx
      have CR := Lib.hid (fun u => thr_RightAny x.sig x.pct x.amt x.grace x.soft u)
      clear hx hcc
      have hnx : (L.take (k + 1)).all ThrV.right = x.right := by rw [List.take_add_one, HX.out, List.all_append, HC.out]; simp
      have HN := Lib.hid hnx
      clear hnx
      obtain ⟨r, hr⟩ : ∃ r, x.right = r := ⟨_, rfl⟩
      have hr2 : (⟨x.sig, x.pct, x.amt, x.soft, x.grace⟩ : ThrV).right = r := hr
      rw [hr2] at CR
      rw [hr] at HN
      clear hr hr2
      cases r with
      | true =>
        go_wp2_with (first | (go_at_call 48; (with_reducible refine (CR.out _).mono ?_); rintro e w3 ⟨rfl, hb3⟩; have HB3 := Lib.hid (belStep (by first | exact hbel | exact belAlloc hbel _ | (refine Below.setCell ?_ (by simp; exact hbel.size) _; exact belAlloc hbel _)) hb3); clear hb3))
        go_roundw
        case rel => exact ⟨k + 1, by omega, by push_cast; rfl, HN, HB3.out⟩
        case measure => simp [intOf] <;> omega
      | false =>
        go_wp2_with (first | (go_at_call 48; (with_reducible refine (CR.out _).mono ?_); rintro e w3 ⟨rfl, hb3⟩; have HB3 := Lib.hid (belStep (by first | exact hbel | exact belAlloc hbel _ | (refine Below.setCell ?_ (by simp; exact hbel.size) _; exact belAlloc hbel _)) hb3); clear hb3))
        go_ret
        exact ⟨congrArg (fun z => Ending.returned (.bool z)) (Eq.symm (show thrM L = false from by unfold thrM; rw [show L.all ThrV.right = false from by rw [← List.take_append_drop (k + 1) L, List.all_append, HN.out]; rfl]; rfl)), HB3.out⟩
    · obtain rfl : k = L.length := by omega
      rw [List.take_length] at HC
      have hd : decide ((L.length : Int) < (L.length : Int)) = false := decide_eq_false (by omega)
      have k10 : decide ((L.length : Int) ≤ 12) = decide (L.length ≤ 12) := decide_eq_decide.2 (by omega)
      go_wp2
      go_ret
      exact ⟨by rw [show thrM L = decide (L.length ≤ 12) from by unfold thrM; rw [HC.out]; rfl]; first | rfl | (rw [← k10]; rfl), hbel⟩
theorem cf_within (n a b : Int) (w : World) : Calls Tryz.prog 49 #[.int .i64 n, .int .i64 a, .int .i64 b] w fun e w' => e = .returned (.bool (decide (a ≤ n) && decide (n ≤ b))) ∧ w' = w := by
  by_cases h1 : a ≤ n <;> by_cases h2 : n ≤ b
  all_goals (go_enter Tryz.func49, Tryz.ntmps49)
  all_goals go_wp2
  all_goals go_ret
  all_goals exact ⟨by simp [h1, h2], rfl⟩
set_option maxRecDepth 100000 in
set_option maxHeartbeats 16000000 in
theorem cf_nums (c : CfM) (ta : Option Addr) (tc : Nat) (w : World)  :
    Calls Tryz.prog 28 #[.agg #[.int .i64 c.k0, .int .i64 c.k1, .int .i64 c.k2, .int .i64 c.a0, .int .i64 c.a1, .int .i64 c.a2, .slice ta c.T.length tc, .int .i64 c.per, .int .i64 c.ret, .int .i64 c.age, .int .i64 c.dead]] w fun e w' => e = .returned (.bool (numM c)) ∧ Below w.heap.size w w' := by
  have hw : Below w.heap.size w w := Below.refl _ _
  have hbel := hw
  go_enter Tryz.func28, Tryz.ntmps28
  go_upto_region 1 with fail
  have cc0 : (w.alloc (.cells #[.int .i64 c.k0, .int .i64 c.k1, .int .i64 c.k2, .int .i64 c.a0, .int .i64 c.a1, .int .i64 c.a2, .slice ta c.T.length tc, .int .i64 c.per, .int .i64 c.ret, .int .i64 c.age, .int .i64 c.dead] 27)).cell? ⟨w.heap.size, 0, none⟩ = some (.int .i64 c.k0) := by first | (simp; done) | (rw [World.cell?_alloc_at _ _ _ _ (by simp)]; rfl) | (rw [World.cell?_alloc_past _ _ _ (by simp <;> omega), World.cell?_alloc_at _ _ _ _ (by simp)]; rfl) | (rw [World.cell?_alloc_past _ _ _ (by simp <;> omega), World.cell?_alloc_past _ _ _ (by simp <;> omega), World.cell?_alloc_at _ _ _ _ (by simp)]; rfl)
  have cc1 : (w.alloc (.cells #[.int .i64 c.k0, .int .i64 c.k1, .int .i64 c.k2, .int .i64 c.a0, .int .i64 c.a1, .int .i64 c.a2, .slice ta c.T.length tc, .int .i64 c.per, .int .i64 c.ret, .int .i64 c.age, .int .i64 c.dead] 27)).cell? ⟨w.heap.size, 1, none⟩ = some (.int .i64 c.k1) := by first | (simp; done) | (rw [World.cell?_alloc_at _ _ _ _ (by simp)]; rfl) | (rw [World.cell?_alloc_past _ _ _ (by simp <;> omega), World.cell?_alloc_at _ _ _ _ (by simp)]; rfl) | (rw [World.cell?_alloc_past _ _ _ (by simp <;> omega), World.cell?_alloc_past _ _ _ (by simp <;> omega), World.cell?_alloc_at _ _ _ _ (by simp)]; rfl)
  have cc2 : (w.alloc (.cells #[.int .i64 c.k0, .int .i64 c.k1, .int .i64 c.k2, .int .i64 c.a0, .int .i64 c.a1, .int .i64 c.a2, .slice ta c.T.length tc, .int .i64 c.per, .int .i64 c.ret, .int .i64 c.age, .int .i64 c.dead] 27)).cell? ⟨w.heap.size, 2, none⟩ = some (.int .i64 c.k2) := by first | (simp; done) | (rw [World.cell?_alloc_at _ _ _ _ (by simp)]; rfl) | (rw [World.cell?_alloc_past _ _ _ (by simp <;> omega), World.cell?_alloc_at _ _ _ _ (by simp)]; rfl) | (rw [World.cell?_alloc_past _ _ _ (by simp <;> omega), World.cell?_alloc_past _ _ _ (by simp <;> omega), World.cell?_alloc_at _ _ _ _ (by simp)]; rfl)
  have cc3 : (w.alloc (.cells #[.int .i64 c.k0, .int .i64 c.k1, .int .i64 c.k2, .int .i64 c.a0, .int .i64 c.a1, .int .i64 c.a2, .slice ta c.T.length tc, .int .i64 c.per, .int .i64 c.ret, .int .i64 c.age, .int .i64 c.dead] 27)).cell? ⟨w.heap.size, 3, none⟩ = some (.int .i64 c.a0) := by first | (simp; done) | (rw [World.cell?_alloc_at _ _ _ _ (by simp)]; rfl) | (rw [World.cell?_alloc_past _ _ _ (by simp <;> omega), World.cell?_alloc_at _ _ _ _ (by simp)]; rfl) | (rw [World.cell?_alloc_past _ _ _ (by simp <;> omega), World.cell?_alloc_past _ _ _ (by simp <;> omega), World.cell?_alloc_at _ _ _ _ (by simp)]; rfl)
  have cc4 : (w.alloc (.cells #[.int .i64 c.k0, .int .i64 c.k1, .int .i64 c.k2, .int .i64 c.a0, .int .i64 c.a1, .int .i64 c.a2, .slice ta c.T.length tc, .int .i64 c.per, .int .i64 c.ret, .int .i64 c.age, .int .i64 c.dead] 27)).cell? ⟨w.heap.size, 4, none⟩ = some (.int .i64 c.a1) := by first | (simp; done) | (rw [World.cell?_alloc_at _ _ _ _ (by simp)]; rfl) | (rw [World.cell?_alloc_past _ _ _ (by simp <;> omega), World.cell?_alloc_at _ _ _ _ (by simp)]; rfl) | (rw [World.cell?_alloc_past _ _ _ (by simp <;> omega), World.cell?_alloc_past _ _ _ (by simp <;> omega), World.cell?_alloc_at _ _ _ _ (by simp)]; rfl)
  have cc5 : (w.alloc (.cells #[.int .i64 c.k0, .int .i64 c.k1, .int .i64 c.k2, .int .i64 c.a0, .int .i64 c.a1, .int .i64 c.a2, .slice ta c.T.length tc, .int .i64 c.per, .int .i64 c.ret, .int .i64 c.age, .int .i64 c.dead] 27)).cell? ⟨w.heap.size, 5, none⟩ = some (.int .i64 c.a2) := by first | (simp; done) | (rw [World.cell?_alloc_at _ _ _ _ (by simp)]; rfl) | (rw [World.cell?_alloc_past _ _ _ (by simp <;> omega), World.cell?_alloc_at _ _ _ _ (by simp)]; rfl) | (rw [World.cell?_alloc_past _ _ _ (by simp <;> omega), World.cell?_alloc_past _ _ _ (by simp <;> omega), World.cell?_alloc_at _ _ _ _ (by simp)]; rfl)
  have cc6 : (w.alloc (.cells #[.int .i64 c.k0, .int .i64 c.k1, .int .i64 c.k2, .int .i64 c.a0, .int .i64 c.a1, .int .i64 c.a2, .slice ta c.T.length tc, .int .i64 c.per, .int .i64 c.ret, .int .i64 c.age, .int .i64 c.dead] 27)).cell? ⟨w.heap.size, 6, none⟩ = some (.slice ta c.T.length tc) := by first | (simp; done) | (rw [World.cell?_alloc_at _ _ _ _ (by simp)]; rfl) | (rw [World.cell?_alloc_past _ _ _ (by simp <;> omega), World.cell?_alloc_at _ _ _ _ (by simp)]; rfl) | (rw [World.cell?_alloc_past _ _ _ (by simp <;> omega), World.cell?_alloc_past _ _ _ (by simp <;> omega), World.cell?_alloc_at _ _ _ _ (by simp)]; rfl)
  have cc7 : (w.alloc (.cells #[.int .i64 c.k0, .int .i64 c.k1, .int .i64 c.k2, .int .i64 c.a0, .int .i64 c.a1, .int .i64 c.a2, .slice ta c.T.length tc, .int .i64 c.per, .int .i64 c.ret, .int .i64 c.age, .int .i64 c.dead] 27)).cell? ⟨w.heap.size, 7, none⟩ = some (.int .i64 c.per) := by first | (simp; done) | (rw [World.cell?_alloc_at _ _ _ _ (by simp)]; rfl) | (rw [World.cell?_alloc_past _ _ _ (by simp <;> omega), World.cell?_alloc_at _ _ _ _ (by simp)]; rfl) | (rw [World.cell?_alloc_past _ _ _ (by simp <;> omega), World.cell?_alloc_past _ _ _ (by simp <;> omega), World.cell?_alloc_at _ _ _ _ (by simp)]; rfl)
  have cc8 : (w.alloc (.cells #[.int .i64 c.k0, .int .i64 c.k1, .int .i64 c.k2, .int .i64 c.a0, .int .i64 c.a1, .int .i64 c.a2, .slice ta c.T.length tc, .int .i64 c.per, .int .i64 c.ret, .int .i64 c.age, .int .i64 c.dead] 27)).cell? ⟨w.heap.size, 8, none⟩ = some (.int .i64 c.ret) := by first | (simp; done) | (rw [World.cell?_alloc_at _ _ _ _ (by simp)]; rfl) | (rw [World.cell?_alloc_past _ _ _ (by simp <;> omega), World.cell?_alloc_at _ _ _ _ (by simp)]; rfl) | (rw [World.cell?_alloc_past _ _ _ (by simp <;> omega), World.cell?_alloc_past _ _ _ (by simp <;> omega), World.cell?_alloc_at _ _ _ _ (by simp)]; rfl)
  have cc9 : (w.alloc (.cells #[.int .i64 c.k0, .int .i64 c.k1, .int .i64 c.k2, .int .i64 c.a0, .int .i64 c.a1, .int .i64 c.a2, .slice ta c.T.length tc, .int .i64 c.per, .int .i64 c.ret, .int .i64 c.age, .int .i64 c.dead] 27)).cell? ⟨w.heap.size, 9, none⟩ = some (.int .i64 c.age) := by first | (simp; done) | (rw [World.cell?_alloc_at _ _ _ _ (by simp)]; rfl) | (rw [World.cell?_alloc_past _ _ _ (by simp <;> omega), World.cell?_alloc_at _ _ _ _ (by simp)]; rfl) | (rw [World.cell?_alloc_past _ _ _ (by simp <;> omega), World.cell?_alloc_past _ _ _ (by simp <;> omega), World.cell?_alloc_at _ _ _ _ (by simp)]; rfl)
  have cc10 : (w.alloc (.cells #[.int .i64 c.k0, .int .i64 c.k1, .int .i64 c.k2, .int .i64 c.a0, .int .i64 c.a1, .int .i64 c.a2, .slice ta c.T.length tc, .int .i64 c.per, .int .i64 c.ret, .int .i64 c.age, .int .i64 c.dead] 27)).cell? ⟨w.heap.size, 10, none⟩ = some (.int .i64 c.dead) := by first | (simp; done) | (rw [World.cell?_alloc_at _ _ _ _ (by simp)]; rfl) | (rw [World.cell?_alloc_past _ _ _ (by simp <;> omega), World.cell?_alloc_at _ _ _ _ (by simp)]; rfl) | (rw [World.cell?_alloc_past _ _ _ (by simp <;> omega), World.cell?_alloc_past _ _ _ (by simp <;> omega), World.cell?_alloc_at _ _ _ _ (by simp)]; rfl)
  have hb2 := (by repeat (first | exact hbel | refine belAlloc ?_ _ | refine belDrew ?_ | refine belSet ?_ _ _ (by simp)) : Below w.heap.size w (w.alloc (.cells #[.int .i64 c.k0, .int .i64 c.k1, .int .i64 c.k2, .int .i64 c.a0, .int .i64 c.a1, .int .i64 c.a2, .slice ta c.T.length tc, .int .i64 c.per, .int .i64 c.ret, .int .i64 c.age, .int .i64 c.dead] 27)))
  replace hw := belStep hw hb2
  clear hb2 hbel
  generalize w.alloc (.cells #[.int .i64 c.k0, .int .i64 c.k1, .int .i64 c.k2, .int .i64 c.a0, .int .i64 c.a1, .int .i64 c.a2, .slice ta c.T.length tc, .int .i64 c.per, .int .i64 c.ret, .int .i64 c.age, .int .i64 c.dead] 27) = W1 at *
  replace cc0 := keep cc0
  replace cc1 := keep cc1
  replace cc2 := keep cc2
  replace cc3 := keep cc3
  replace cc4 := keep cc4
  replace cc5 := keep cc5
  replace cc6 := keep cc6
  replace cc7 := keep cc7
  replace cc8 := keep cc8
  replace cc9 := keep cc9
  replace cc10 := keep cc10
  have hbel : Below W1.heap.size W1 W1 := Below.refl _ _
  skip
  have HW := Lib.hid hw
  clear hw
  by_cases h0 : 1 ≤ c.per ∧ c.per ≤ 1000
  · have t0 : (decide (1 ≤ c.per) && decide (c.per ≤ 1000)) = true := by rw [decide_eq_true h0.1, decide_eq_true h0.2]; rfl
    by_cases h1 : 1 ≤ c.age ∧ c.age ≤ 1000
    · have t1 : (decide (1 ≤ c.age) && decide (c.age ≤ 1000)) = true := by rw [decide_eq_true h1.1, decide_eq_true h1.2]; rfl
      by_cases h2 : 0 ≤ c.ret ∧ c.ret ≤ 20
      · have t2 : (decide (0 ≤ c.ret) && decide (c.ret ≤ 20)) = true := by rw [decide_eq_true h2.1, decide_eq_true h2.2]; rfl
        by_cases h3 : 0 ≤ c.dead ∧ c.dead ≤ 100
        · have t3 : (decide (0 ≤ c.dead) && decide (c.dead ≤ 100)) = true := by rw [decide_eq_true h3.1, decide_eq_true h3.2]; rfl
          go_wp2_with (go_at_call 49; (with_reducible refine (cf_within _ _ _ _).mono ?_); rintro e wx ⟨rfl, hz9⟩; have hz8 := hz9.symm; subst hz8)
          go_ret
          exact ⟨congrArg (fun z => Ending.returned (.bool z)) (Eq.symm (show numM c = true from by unfold numM; exact decide_eq_true (by omega))), HW.out⟩
        · have t3 : (decide (0 ≤ c.dead) && decide (c.dead ≤ 100)) = false := by rw [Bool.and_eq_false_iff]; simp only [decide_eq_false_iff_not]; omega
          go_wp2_with (go_at_call 49; (with_reducible refine (cf_within _ _ _ _).mono ?_); rintro e wx ⟨rfl, hz9⟩; have hz8 := hz9.symm; subst hz8)
          go_ret
          exact ⟨congrArg (fun z => Ending.returned (.bool z)) (Eq.symm (show numM c = false from by unfold numM; exact decide_eq_false (by omega))), HW.out⟩
      · have t2 : (decide (0 ≤ c.ret) && decide (c.ret ≤ 20)) = false := by rw [Bool.and_eq_false_iff]; simp only [decide_eq_false_iff_not]; omega
        go_wp2_with (go_at_call 49; (with_reducible refine (cf_within _ _ _ _).mono ?_); rintro e wx ⟨rfl, hz9⟩; have hz8 := hz9.symm; subst hz8)
        go_ret
        exact ⟨congrArg (fun z => Ending.returned (.bool z)) (Eq.symm (show numM c = false from by unfold numM; exact decide_eq_false (by omega))), HW.out⟩
    · have t1 : (decide (1 ≤ c.age) && decide (c.age ≤ 1000)) = false := by rw [Bool.and_eq_false_iff]; simp only [decide_eq_false_iff_not]; omega
      go_wp2_with (go_at_call 49; (with_reducible refine (cf_within _ _ _ _).mono ?_); rintro e wx ⟨rfl, hz9⟩; have hz8 := hz9.symm; subst hz8)
      go_ret
      exact ⟨congrArg (fun z => Ending.returned (.bool z)) (Eq.symm (show numM c = false from by unfold numM; exact decide_eq_false (by omega))), HW.out⟩
  · have t0 : (decide (1 ≤ c.per) && decide (c.per ≤ 1000)) = false := by rw [Bool.and_eq_false_iff]; simp only [decide_eq_false_iff_not]; omega
    go_wp2_with (go_at_call 49; (with_reducible refine (cf_within _ _ _ _).mono ?_); rintro e wx ⟨rfl, hz9⟩; have hz8 := hz9.symm; subst hz8)
    go_ret
    exact ⟨congrArg (fun z => Ending.returned (.bool z)) (Eq.symm (show numM c = false from by unfold numM; exact decide_eq_false (by omega))), HW.out⟩
set_option maxRecDepth 100000 in
set_option maxHeartbeats 16000000 in
theorem cf_Right (c : CfM) (ta : Option Addr) (tc : Nat) (w : World) (hc : CfA c ta tc w) :
    Calls Tryz.prog 10 #[.agg #[.int .i64 c.k0, .int .i64 c.k1, .int .i64 c.k2, .int .i64 c.a0, .int .i64 c.a1, .int .i64 c.a2, .slice ta c.T.length tc, .int .i64 c.per, .int .i64 c.ret, .int .i64 c.age, .int .i64 c.dead]] w fun e w' => e = .returned (.bool (rightM c)) ∧ Below w.heap.size w w' := by
  have hw : Below w.heap.size w w := Below.refl _ _
  have hbel := hw
  have HC := Lib.hid hc
  clear hc
  go_enter Tryz.func10, Tryz.ntmps10
  go_upto_region 1 with fail
  have cc0 : (w.alloc (.cells #[.int .i64 c.k0, .int .i64 c.k1, .int .i64 c.k2, .int .i64 c.a0, .int .i64 c.a1, .int .i64 c.a2, .slice ta c.T.length tc, .int .i64 c.per, .int .i64 c.ret, .int .i64 c.age, .int .i64 c.dead] 27)).cell? ⟨w.heap.size, 0, none⟩ = some (.int .i64 c.k0) := by first | (simp; done) | (rw [World.cell?_alloc_at _ _ _ _ (by simp)]; rfl) | (rw [World.cell?_alloc_past _ _ _ (by simp <;> omega), World.cell?_alloc_at _ _ _ _ (by simp)]; rfl) | (rw [World.cell?_alloc_past _ _ _ (by simp <;> omega), World.cell?_alloc_past _ _ _ (by simp <;> omega), World.cell?_alloc_at _ _ _ _ (by simp)]; rfl)
  have cc1 : (w.alloc (.cells #[.int .i64 c.k0, .int .i64 c.k1, .int .i64 c.k2, .int .i64 c.a0, .int .i64 c.a1, .int .i64 c.a2, .slice ta c.T.length tc, .int .i64 c.per, .int .i64 c.ret, .int .i64 c.age, .int .i64 c.dead] 27)).cell? ⟨w.heap.size, 1, none⟩ = some (.int .i64 c.k1) := by first | (simp; done) | (rw [World.cell?_alloc_at _ _ _ _ (by simp)]; rfl) | (rw [World.cell?_alloc_past _ _ _ (by simp <;> omega), World.cell?_alloc_at _ _ _ _ (by simp)]; rfl) | (rw [World.cell?_alloc_past _ _ _ (by simp <;> omega), World.cell?_alloc_past _ _ _ (by simp <;> omega), World.cell?_alloc_at _ _ _ _ (by simp)]; rfl)
  have cc2 : (w.alloc (.cells #[.int .i64 c.k0, .int .i64 c.k1, .int .i64 c.k2, .int .i64 c.a0, .int .i64 c.a1, .int .i64 c.a2, .slice ta c.T.length tc, .int .i64 c.per, .int .i64 c.ret, .int .i64 c.age, .int .i64 c.dead] 27)).cell? ⟨w.heap.size, 2, none⟩ = some (.int .i64 c.k2) := by first | (simp; done) | (rw [World.cell?_alloc_at _ _ _ _ (by simp)]; rfl) | (rw [World.cell?_alloc_past _ _ _ (by simp <;> omega), World.cell?_alloc_at _ _ _ _ (by simp)]; rfl) | (rw [World.cell?_alloc_past _ _ _ (by simp <;> omega), World.cell?_alloc_past _ _ _ (by simp <;> omega), World.cell?_alloc_at _ _ _ _ (by simp)]; rfl)
  have cc3 : (w.alloc (.cells #[.int .i64 c.k0, .int .i64 c.k1, .int .i64 c.k2, .int .i64 c.a0, .int .i64 c.a1, .int .i64 c.a2, .slice ta c.T.length tc, .int .i64 c.per, .int .i64 c.ret, .int .i64 c.age, .int .i64 c.dead] 27)).cell? ⟨w.heap.size, 3, none⟩ = some (.int .i64 c.a0) := by first | (simp; done) | (rw [World.cell?_alloc_at _ _ _ _ (by simp)]; rfl) | (rw [World.cell?_alloc_past _ _ _ (by simp <;> omega), World.cell?_alloc_at _ _ _ _ (by simp)]; rfl) | (rw [World.cell?_alloc_past _ _ _ (by simp <;> omega), World.cell?_alloc_past _ _ _ (by simp <;> omega), World.cell?_alloc_at _ _ _ _ (by simp)]; rfl)
  have cc4 : (w.alloc (.cells #[.int .i64 c.k0, .int .i64 c.k1, .int .i64 c.k2, .int .i64 c.a0, .int .i64 c.a1, .int .i64 c.a2, .slice ta c.T.length tc, .int .i64 c.per, .int .i64 c.ret, .int .i64 c.age, .int .i64 c.dead] 27)).cell? ⟨w.heap.size, 4, none⟩ = some (.int .i64 c.a1) := by first | (simp; done) | (rw [World.cell?_alloc_at _ _ _ _ (by simp)]; rfl) | (rw [World.cell?_alloc_past _ _ _ (by simp <;> omega), World.cell?_alloc_at _ _ _ _ (by simp)]; rfl) | (rw [World.cell?_alloc_past _ _ _ (by simp <;> omega), World.cell?_alloc_past _ _ _ (by simp <;> omega), World.cell?_alloc_at _ _ _ _ (by simp)]; rfl)
  have cc5 : (w.alloc (.cells #[.int .i64 c.k0, .int .i64 c.k1, .int .i64 c.k2, .int .i64 c.a0, .int .i64 c.a1, .int .i64 c.a2, .slice ta c.T.length tc, .int .i64 c.per, .int .i64 c.ret, .int .i64 c.age, .int .i64 c.dead] 27)).cell? ⟨w.heap.size, 5, none⟩ = some (.int .i64 c.a2) := by first | (simp; done) | (rw [World.cell?_alloc_at _ _ _ _ (by simp)]; rfl) | (rw [World.cell?_alloc_past _ _ _ (by simp <;> omega), World.cell?_alloc_at _ _ _ _ (by simp)]; rfl) | (rw [World.cell?_alloc_past _ _ _ (by simp <;> omega), World.cell?_alloc_past _ _ _ (by simp <;> omega), World.cell?_alloc_at _ _ _ _ (by simp)]; rfl)
  have cc6 : (w.alloc (.cells #[.int .i64 c.k0, .int .i64 c.k1, .int .i64 c.k2, .int .i64 c.a0, .int .i64 c.a1, .int .i64 c.a2, .slice ta c.T.length tc, .int .i64 c.per, .int .i64 c.ret, .int .i64 c.age, .int .i64 c.dead] 27)).cell? ⟨w.heap.size, 6, none⟩ = some (.slice ta c.T.length tc) := by first | (simp; done) | (rw [World.cell?_alloc_at _ _ _ _ (by simp)]; rfl) | (rw [World.cell?_alloc_past _ _ _ (by simp <;> omega), World.cell?_alloc_at _ _ _ _ (by simp)]; rfl) | (rw [World.cell?_alloc_past _ _ _ (by simp <;> omega), World.cell?_alloc_past _ _ _ (by simp <;> omega), World.cell?_alloc_at _ _ _ _ (by simp)]; rfl)
  have cc7 : (w.alloc (.cells #[.int .i64 c.k0, .int .i64 c.k1, .int .i64 c.k2, .int .i64 c.a0, .int .i64 c.a1, .int .i64 c.a2, .slice ta c.T.length tc, .int .i64 c.per, .int .i64 c.ret, .int .i64 c.age, .int .i64 c.dead] 27)).cell? ⟨w.heap.size, 7, none⟩ = some (.int .i64 c.per) := by first | (simp; done) | (rw [World.cell?_alloc_at _ _ _ _ (by simp)]; rfl) | (rw [World.cell?_alloc_past _ _ _ (by simp <;> omega), World.cell?_alloc_at _ _ _ _ (by simp)]; rfl) | (rw [World.cell?_alloc_past _ _ _ (by simp <;> omega), World.cell?_alloc_past _ _ _ (by simp <;> omega), World.cell?_alloc_at _ _ _ _ (by simp)]; rfl)
  have cc8 : (w.alloc (.cells #[.int .i64 c.k0, .int .i64 c.k1, .int .i64 c.k2, .int .i64 c.a0, .int .i64 c.a1, .int .i64 c.a2, .slice ta c.T.length tc, .int .i64 c.per, .int .i64 c.ret, .int .i64 c.age, .int .i64 c.dead] 27)).cell? ⟨w.heap.size, 8, none⟩ = some (.int .i64 c.ret) := by first | (simp; done) | (rw [World.cell?_alloc_at _ _ _ _ (by simp)]; rfl) | (rw [World.cell?_alloc_past _ _ _ (by simp <;> omega), World.cell?_alloc_at _ _ _ _ (by simp)]; rfl) | (rw [World.cell?_alloc_past _ _ _ (by simp <;> omega), World.cell?_alloc_past _ _ _ (by simp <;> omega), World.cell?_alloc_at _ _ _ _ (by simp)]; rfl)
  have cc9 : (w.alloc (.cells #[.int .i64 c.k0, .int .i64 c.k1, .int .i64 c.k2, .int .i64 c.a0, .int .i64 c.a1, .int .i64 c.a2, .slice ta c.T.length tc, .int .i64 c.per, .int .i64 c.ret, .int .i64 c.age, .int .i64 c.dead] 27)).cell? ⟨w.heap.size, 9, none⟩ = some (.int .i64 c.age) := by first | (simp; done) | (rw [World.cell?_alloc_at _ _ _ _ (by simp)]; rfl) | (rw [World.cell?_alloc_past _ _ _ (by simp <;> omega), World.cell?_alloc_at _ _ _ _ (by simp)]; rfl) | (rw [World.cell?_alloc_past _ _ _ (by simp <;> omega), World.cell?_alloc_past _ _ _ (by simp <;> omega), World.cell?_alloc_at _ _ _ _ (by simp)]; rfl)
  have cc10 : (w.alloc (.cells #[.int .i64 c.k0, .int .i64 c.k1, .int .i64 c.k2, .int .i64 c.a0, .int .i64 c.a1, .int .i64 c.a2, .slice ta c.T.length tc, .int .i64 c.per, .int .i64 c.ret, .int .i64 c.age, .int .i64 c.dead] 27)).cell? ⟨w.heap.size, 10, none⟩ = some (.int .i64 c.dead) := by first | (simp; done) | (rw [World.cell?_alloc_at _ _ _ _ (by simp)]; rfl) | (rw [World.cell?_alloc_past _ _ _ (by simp <;> omega), World.cell?_alloc_at _ _ _ _ (by simp)]; rfl) | (rw [World.cell?_alloc_past _ _ _ (by simp <;> omega), World.cell?_alloc_past _ _ _ (by simp <;> omega), World.cell?_alloc_at _ _ _ _ (by simp)]; rfl)
  have hb2 := (by repeat (first | exact hbel | refine belAlloc ?_ _ | refine belDrew ?_ | refine belSet ?_ _ _ (by simp)) : Below w.heap.size w (w.alloc (.cells #[.int .i64 c.k0, .int .i64 c.k1, .int .i64 c.k2, .int .i64 c.a0, .int .i64 c.a1, .int .i64 c.a2, .slice ta c.T.length tc, .int .i64 c.per, .int .i64 c.ret, .int .i64 c.age, .int .i64 c.dead] 27)))
  replace hw := belStep hw hb2
  clear hb2 hbel
  generalize w.alloc (.cells #[.int .i64 c.k0, .int .i64 c.k1, .int .i64 c.k2, .int .i64 c.a0, .int .i64 c.a1, .int .i64 c.a2, .slice ta c.T.length tc, .int .i64 c.per, .int .i64 c.ret, .int .i64 c.age, .int .i64 c.dead] 27) = W1 at *
  replace cc0 := keep cc0
  replace cc1 := keep cc1
  replace cc2 := keep cc2
  replace cc3 := keep cc3
  replace cc4 := keep cc4
  replace cc5 := keep cc5
  replace cc6 := keep cc6
  replace cc7 := keep cc7
  replace cc8 := keep cc8
  replace cc9 := keep cc9
  replace cc10 := keep cc10
  have hbel : Below W1.heap.size W1 W1 := Below.refl _ _
  skip
  have HW := Lib.hid hw
  have HC1 := Lib.hid (HC.out.later hw)
  clear hw HC
  have C1 := Lib.hid (cf_node c ta tc W1 HC1.out.ok)
  have C2 := Lib.hid (fun u (hu : Below W1.heap.size W1 u) => cf_thr ta c.T.length tc c.T u rfl (HC1.out.row.later hu) HC1.out.ok.thr)
  have C3 := Lib.hid (fun u => cf_nums c ta tc u)
  obtain ⟨x1, h1⟩ : ∃ x, nodeM c = x := ⟨_, rfl⟩
  obtain ⟨x2, h2⟩ : ∃ x, thrM c.T = x := ⟨_, rfl⟩
  obtain ⟨x3, h3⟩ : ∃ x, numM c = x := ⟨_, rfl⟩
  have HR := Lib.hid (show rightM c = (x1 && x2 && x3) from by unfold rightM; rw [h1, h2, h3])
  rw [h1] at C1
  rw [h2] at C2
  rw [h3] at C3
  clear h1 h2 h3
  cases x1 <;> cases x2 <;> cases x3
  all_goals go_wp2_with (first | (go_at_call 26; (with_reducible refine (C1.out).mono ?_); rintro e w2 ⟨rfl, hb2⟩; have hbel := hb2) | (go_at_call 27; (with_reducible refine (C2.out _ hbel).mono ?_); rintro e w3 ⟨rfl, hb3⟩; replace hbel := belStep hbel hb3) | (go_at_call 28; (with_reducible refine (C3.out _).mono ?_); rintro e w4 ⟨rfl, hb4⟩; replace hbel := belStep hbel hb4))
  all_goals go_ret
  all_goals exact ⟨congrArg (fun z => Ending.returned (.bool z)) (Eq.symm HR.out), belStep HW.out hbel⟩
end Go.Proofs.YtcaenbobfneejaaGreatDoor
namespace Go.Proofs.YtcaenbobfneejaaGreatDoor
open Go.RowKit
set_option linter.unusedVariables false
set_option linter.unusedSimpArgs false
set_option maxRecDepth 100000 in
set_option maxHeartbeats 16000000 in
theorem rf_Right7 (c : CfM) (ta : Option Addr) (tc : Nat) (w : World) (hc : CfA c ta tc w) :
    Calls Tryz.prog 8 #[.agg #[.int .i64 c.k0, .int .i64 c.k1, .int .i64 c.k2, .int .i64 c.a0, .int .i64 c.a1, .int .i64 c.a2, .slice ta c.T.length tc, .int .i64 c.per, .int .i64 c.ret, .int .i64 c.age, .int .i64 c.dead]] w fun e w' => e = .returned (.bool (rightM c)) ∧ Below w.heap.size w w' := by
  have hw : Below w.heap.size w w := Below.refl _ _
  have hbel := hw
  have HC := Lib.hid hc
  clear hc
  go_enter Tryz.func8, Tryz.ntmps8
  go_upto_region 1 with fail
  have cc0 : (w.alloc (.cells #[.int .i64 c.k0, .int .i64 c.k1, .int .i64 c.k2, .int .i64 c.a0, .int .i64 c.a1, .int .i64 c.a2, .slice ta c.T.length tc, .int .i64 c.per, .int .i64 c.ret, .int .i64 c.age, .int .i64 c.dead] 27)).cell? ⟨w.heap.size, 0, none⟩ = some (.int .i64 c.k0) := by first | (simp; done) | (rw [World.cell?_alloc_at _ _ _ _ (by simp)]; rfl) | (rw [World.cell?_alloc_past _ _ _ (by simp <;> omega), World.cell?_alloc_at _ _ _ _ (by simp)]; rfl) | (rw [World.cell?_alloc_past _ _ _ (by simp <;> omega), World.cell?_alloc_past _ _ _ (by simp <;> omega), World.cell?_alloc_at _ _ _ _ (by simp)]; rfl)
  have cc1 : (w.alloc (.cells #[.int .i64 c.k0, .int .i64 c.k1, .int .i64 c.k2, .int .i64 c.a0, .int .i64 c.a1, .int .i64 c.a2, .slice ta c.T.length tc, .int .i64 c.per, .int .i64 c.ret, .int .i64 c.age, .int .i64 c.dead] 27)).cell? ⟨w.heap.size, 1, none⟩ = some (.int .i64 c.k1) := by first | (simp; done) | (rw [World.cell?_alloc_at _ _ _ _ (by simp)]; rfl) | (rw [World.cell?_alloc_past _ _ _ (by simp <;> omega), World.cell?_alloc_at _ _ _ _ (by simp)]; rfl) | (rw [World.cell?_alloc_past _ _ _ (by simp <;> omega), World.cell?_alloc_past _ _ _ (by simp <;> omega), World.cell?_alloc_at _ _ _ _ (by simp)]; rfl)
  have cc2 : (w.alloc (.cells #[.int .i64 c.k0, .int .i64 c.k1, .int .i64 c.k2, .int .i64 c.a0, .int .i64 c.a1, .int .i64 c.a2, .slice ta c.T.length tc, .int .i64 c.per, .int .i64 c.ret, .int .i64 c.age, .int .i64 c.dead] 27)).cell? ⟨w.heap.size, 2, none⟩ = some (.int .i64 c.k2) := by first | (simp; done) | (rw [World.cell?_alloc_at _ _ _ _ (by simp)]; rfl) | (rw [World.cell?_alloc_past _ _ _ (by simp <;> omega), World.cell?_alloc_at _ _ _ _ (by simp)]; rfl) | (rw [World.cell?_alloc_past _ _ _ (by simp <;> omega), World.cell?_alloc_past _ _ _ (by simp <;> omega), World.cell?_alloc_at _ _ _ _ (by simp)]; rfl)
  have cc3 : (w.alloc (.cells #[.int .i64 c.k0, .int .i64 c.k1, .int .i64 c.k2, .int .i64 c.a0, .int .i64 c.a1, .int .i64 c.a2, .slice ta c.T.length tc, .int .i64 c.per, .int .i64 c.ret, .int .i64 c.age, .int .i64 c.dead] 27)).cell? ⟨w.heap.size, 3, none⟩ = some (.int .i64 c.a0) := by first | (simp; done) | (rw [World.cell?_alloc_at _ _ _ _ (by simp)]; rfl) | (rw [World.cell?_alloc_past _ _ _ (by simp <;> omega), World.cell?_alloc_at _ _ _ _ (by simp)]; rfl) | (rw [World.cell?_alloc_past _ _ _ (by simp <;> omega), World.cell?_alloc_past _ _ _ (by simp <;> omega), World.cell?_alloc_at _ _ _ _ (by simp)]; rfl)
  have cc4 : (w.alloc (.cells #[.int .i64 c.k0, .int .i64 c.k1, .int .i64 c.k2, .int .i64 c.a0, .int .i64 c.a1, .int .i64 c.a2, .slice ta c.T.length tc, .int .i64 c.per, .int .i64 c.ret, .int .i64 c.age, .int .i64 c.dead] 27)).cell? ⟨w.heap.size, 4, none⟩ = some (.int .i64 c.a1) := by first | (simp; done) | (rw [World.cell?_alloc_at _ _ _ _ (by simp)]; rfl) | (rw [World.cell?_alloc_past _ _ _ (by simp <;> omega), World.cell?_alloc_at _ _ _ _ (by simp)]; rfl) | (rw [World.cell?_alloc_past _ _ _ (by simp <;> omega), World.cell?_alloc_past _ _ _ (by simp <;> omega), World.cell?_alloc_at _ _ _ _ (by simp)]; rfl)
  have cc5 : (w.alloc (.cells #[.int .i64 c.k0, .int .i64 c.k1, .int .i64 c.k2, .int .i64 c.a0, .int .i64 c.a1, .int .i64 c.a2, .slice ta c.T.length tc, .int .i64 c.per, .int .i64 c.ret, .int .i64 c.age, .int .i64 c.dead] 27)).cell? ⟨w.heap.size, 5, none⟩ = some (.int .i64 c.a2) := by first | (simp; done) | (rw [World.cell?_alloc_at _ _ _ _ (by simp)]; rfl) | (rw [World.cell?_alloc_past _ _ _ (by simp <;> omega), World.cell?_alloc_at _ _ _ _ (by simp)]; rfl) | (rw [World.cell?_alloc_past _ _ _ (by simp <;> omega), World.cell?_alloc_past _ _ _ (by simp <;> omega), World.cell?_alloc_at _ _ _ _ (by simp)]; rfl)
  have cc6 : (w.alloc (.cells #[.int .i64 c.k0, .int .i64 c.k1, .int .i64 c.k2, .int .i64 c.a0, .int .i64 c.a1, .int .i64 c.a2, .slice ta c.T.length tc, .int .i64 c.per, .int .i64 c.ret, .int .i64 c.age, .int .i64 c.dead] 27)).cell? ⟨w.heap.size, 6, none⟩ = some (.slice ta c.T.length tc) := by first | (simp; done) | (rw [World.cell?_alloc_at _ _ _ _ (by simp)]; rfl) | (rw [World.cell?_alloc_past _ _ _ (by simp <;> omega), World.cell?_alloc_at _ _ _ _ (by simp)]; rfl) | (rw [World.cell?_alloc_past _ _ _ (by simp <;> omega), World.cell?_alloc_past _ _ _ (by simp <;> omega), World.cell?_alloc_at _ _ _ _ (by simp)]; rfl)
  have cc7 : (w.alloc (.cells #[.int .i64 c.k0, .int .i64 c.k1, .int .i64 c.k2, .int .i64 c.a0, .int .i64 c.a1, .int .i64 c.a2, .slice ta c.T.length tc, .int .i64 c.per, .int .i64 c.ret, .int .i64 c.age, .int .i64 c.dead] 27)).cell? ⟨w.heap.size, 7, none⟩ = some (.int .i64 c.per) := by first | (simp; done) | (rw [World.cell?_alloc_at _ _ _ _ (by simp)]; rfl) | (rw [World.cell?_alloc_past _ _ _ (by simp <;> omega), World.cell?_alloc_at _ _ _ _ (by simp)]; rfl) | (rw [World.cell?_alloc_past _ _ _ (by simp <;> omega), World.cell?_alloc_past _ _ _ (by simp <;> omega), World.cell?_alloc_at _ _ _ _ (by simp)]; rfl)
  have cc8 : (w.alloc (.cells #[.int .i64 c.k0, .int .i64 c.k1, .int .i64 c.k2, .int .i64 c.a0, .int .i64 c.a1, .int .i64 c.a2, .slice ta c.T.length tc, .int .i64 c.per, .int .i64 c.ret, .int .i64 c.age, .int .i64 c.dead] 27)).cell? ⟨w.heap.size, 8, none⟩ = some (.int .i64 c.ret) := by first | (simp; done) | (rw [World.cell?_alloc_at _ _ _ _ (by simp)]; rfl) | (rw [World.cell?_alloc_past _ _ _ (by simp <;> omega), World.cell?_alloc_at _ _ _ _ (by simp)]; rfl) | (rw [World.cell?_alloc_past _ _ _ (by simp <;> omega), World.cell?_alloc_past _ _ _ (by simp <;> omega), World.cell?_alloc_at _ _ _ _ (by simp)]; rfl)
  have cc9 : (w.alloc (.cells #[.int .i64 c.k0, .int .i64 c.k1, .int .i64 c.k2, .int .i64 c.a0, .int .i64 c.a1, .int .i64 c.a2, .slice ta c.T.length tc, .int .i64 c.per, .int .i64 c.ret, .int .i64 c.age, .int .i64 c.dead] 27)).cell? ⟨w.heap.size, 9, none⟩ = some (.int .i64 c.age) := by first | (simp; done) | (rw [World.cell?_alloc_at _ _ _ _ (by simp)]; rfl) | (rw [World.cell?_alloc_past _ _ _ (by simp <;> omega), World.cell?_alloc_at _ _ _ _ (by simp)]; rfl) | (rw [World.cell?_alloc_past _ _ _ (by simp <;> omega), World.cell?_alloc_past _ _ _ (by simp <;> omega), World.cell?_alloc_at _ _ _ _ (by simp)]; rfl)
  have cc10 : (w.alloc (.cells #[.int .i64 c.k0, .int .i64 c.k1, .int .i64 c.k2, .int .i64 c.a0, .int .i64 c.a1, .int .i64 c.a2, .slice ta c.T.length tc, .int .i64 c.per, .int .i64 c.ret, .int .i64 c.age, .int .i64 c.dead] 27)).cell? ⟨w.heap.size, 10, none⟩ = some (.int .i64 c.dead) := by first | (simp; done) | (rw [World.cell?_alloc_at _ _ _ _ (by simp)]; rfl) | (rw [World.cell?_alloc_past _ _ _ (by simp <;> omega), World.cell?_alloc_at _ _ _ _ (by simp)]; rfl) | (rw [World.cell?_alloc_past _ _ _ (by simp <;> omega), World.cell?_alloc_past _ _ _ (by simp <;> omega), World.cell?_alloc_at _ _ _ _ (by simp)]; rfl)
  have hb2 := (by repeat (first | exact hbel | refine belAlloc ?_ _ | refine belDrew ?_ | refine belSet ?_ _ _ (by simp)) : Below w.heap.size w (w.alloc (.cells #[.int .i64 c.k0, .int .i64 c.k1, .int .i64 c.k2, .int .i64 c.a0, .int .i64 c.a1, .int .i64 c.a2, .slice ta c.T.length tc, .int .i64 c.per, .int .i64 c.ret, .int .i64 c.age, .int .i64 c.dead] 27)))
  replace hw := belStep hw hb2
  clear hb2 hbel
  generalize w.alloc (.cells #[.int .i64 c.k0, .int .i64 c.k1, .int .i64 c.k2, .int .i64 c.a0, .int .i64 c.a1, .int .i64 c.a2, .slice ta c.T.length tc, .int .i64 c.per, .int .i64 c.ret, .int .i64 c.age, .int .i64 c.dead] 27) = W1 at *
  replace cc0 := keep cc0
  replace cc1 := keep cc1
  replace cc2 := keep cc2
  replace cc3 := keep cc3
  replace cc4 := keep cc4
  replace cc5 := keep cc5
  replace cc6 := keep cc6
  replace cc7 := keep cc7
  replace cc8 := keep cc8
  replace cc9 := keep cc9
  replace cc10 := keep cc10
  have hbel : Below W1.heap.size W1 W1 := Below.refl _ _
  skip
  have HW := Lib.hid hw
  have HC1 := Lib.hid (HC.out.later hw)
  clear hw HC
  have hbd_a : c.T.length ≤ tc ∧ tc ≤ 9223372036854775807 := by obtain ⟨_, h1, h2, _⟩ := HC1.out.row; unfold maxLen at h2; exact ⟨h1, h2⟩
  obtain ⟨hbd1_a, hbd2_a⟩ := hbd_a
  go_wp2
  go_loopw [3] (fun i wr => ∃ m : Nat, m ≤ 3 ∧ i = .int .i64 m ∧ (0 < m → 0 < c.k0 ∧ 0 ≤ c.a0) ∧ (1 < m → 0 < c.k1 ∧ 0 ≤ c.a1) ∧ (2 < m → 0 < c.k2 ∧ 0 ≤ c.a2) ∧ W1 = wr) (fun i _ => 3 - (intOf i).toNat)
  case atStart => exact ⟨0, by omega, rfl, fun q => by omega, fun q => by omega, fun q => by omega, rfl⟩
  case round =>
    obtain ⟨m, hm, rfl, p0, p1, p2, rfl⟩ := hrel
    rcases (show m = 0 ∨ m = 1 ∨ m = 2 ∨ m = 3 by omega) with rfl | rfl | rfl | rfl
    · by_cases g : c.k0 < 1
      · have dg : decide (c.k0 < 1) = true := decide_eq_true g
        go_wp2
        go_ret
        exact ⟨congrArg (fun z => Ending.returned (.bool z)) (Eq.symm (show rightM c = false from by unfold rightM nodeM; rw [decide_eq_false (by omega)]; rfl)), HW.out⟩
      · have dg : decide (c.k0 < 1) = false := decide_eq_false g
        by_cases h : c.a0 < 0
        · have dh : decide (c.a0 < 0) = true := decide_eq_true h
          go_wp2
          go_ret
          exact ⟨congrArg (fun z => Ending.returned (.bool z)) (Eq.symm (show rightM c = false from by unfold rightM nodeM; rw [decide_eq_false (by omega)]; rfl)), HW.out⟩
        · have dh : decide (c.a0 < 0) = false := decide_eq_false h
          go_wp2
          go_roundw
          case rel => exact ⟨1, by omega, rfl, fun z => by first | omega | exact p0 (by omega), fun z => by first | omega | exact p1 (by omega), fun z => by first | omega | exact p2 (by omega), by first | rfl | trivial⟩
          case measure => simp [intOf]
    · by_cases g : c.k1 < 1
      · have dg : decide (c.k1 < 1) = true := decide_eq_true g
        go_wp2
        go_ret
        exact ⟨congrArg (fun z => Ending.returned (.bool z)) (Eq.symm (show rightM c = false from by unfold rightM nodeM; rw [decide_eq_false (by omega)]; rfl)), HW.out⟩
      · have dg : decide (c.k1 < 1) = false := decide_eq_false g
        by_cases h : c.a1 < 0
        · have dh : decide (c.a1 < 0) = true := decide_eq_true h
          go_wp2
          go_ret
          exact ⟨congrArg (fun z => Ending.returned (.bool z)) (Eq.symm (show rightM c = false from by unfold rightM nodeM; rw [decide_eq_false (by omega)]; rfl)), HW.out⟩
        · have dh : decide (c.a1 < 0) = false := decide_eq_false h
          go_wp2
          go_roundw
          case rel => exact ⟨2, by omega, rfl, fun z => by first | omega | exact p0 (by omega), fun z => by first | omega | exact p1 (by omega), fun z => by first | omega | exact p2 (by omega), by first | rfl | trivial⟩
          case measure => simp [intOf]
    · by_cases g : c.k2 < 1
      · have dg : decide (c.k2 < 1) = true := decide_eq_true g
        go_wp2
        go_ret
        exact ⟨congrArg (fun z => Ending.returned (.bool z)) (Eq.symm (show rightM c = false from by unfold rightM nodeM; rw [decide_eq_false (by omega)]; rfl)), HW.out⟩
      · have dg : decide (c.k2 < 1) = false := decide_eq_false g
        by_cases h : c.a2 < 0
        · have dh : decide (c.a2 < 0) = true := decide_eq_true h
          go_wp2
          go_ret
          exact ⟨congrArg (fun z => Ending.returned (.bool z)) (Eq.symm (show rightM c = false from by unfold rightM nodeM; rw [decide_eq_false (by omega)]; rfl)), HW.out⟩
        · have dh : decide (c.a2 < 0) = false := decide_eq_false h
          go_wp2
          go_roundw
          case rel => exact ⟨3, by omega, rfl, fun z => by first | omega | exact p0 (by omega), fun z => by first | omega | exact p1 (by omega), fun z => by first | omega | exact p2 (by omega), by first | rfl | trivial⟩
          case measure => simp [intOf]
    · replace p0 := p0 (by omega)
      replace p1 := p1 (by omega)
      replace p2 := p2 (by omega)
      by_cases q1 : c.k0 < c.a1
      · have dq1 : decide (c.k0 < c.a1) = true := decide_eq_true q1
        go_wp2
        go_ret
        exact ⟨congrArg (fun z => Ending.returned (.bool z)) (Eq.symm (show rightM c = false from by unfold rightM nodeM; rw [decide_eq_false (by omega)]; rfl)), HW.out⟩
      · have dq1 : decide (c.k0 < c.a1) = false := decide_eq_false q1
        by_cases q2 : c.k2 < c.a2
        · have dq2 : decide (c.k2 < c.a2) = true := decide_eq_true q2
          go_wp2
          go_ret
          exact ⟨congrArg (fun z => Ending.returned (.bool z)) (Eq.symm (show rightM c = false from by unfold rightM nodeM; rw [decide_eq_false (by omega)]; rfl)), HW.out⟩
        · have dq2 : decide (c.k2 < c.a2) = false := decide_eq_false q2
          by_cases q3 : (12 : Int) < (c.T.length : Int)
          · have dq3 : decide ((12 : Int) < (c.T.length : Int)) = true := decide_eq_true q3
            go_wp2
            go_ret
            exact ⟨congrArg (fun z => Ending.returned (.bool z)) (Eq.symm (show rightM c = false from by unfold rightM thrM; rw [show decide (c.T.length ≤ 12) = false from decide_eq_false (by omega)]; simp)), HW.out⟩
          · have dq3 : decide ((12 : Int) < (c.T.length : Int)) = false := decide_eq_false q3
            have HN := Lib.hid (show nodeM c = true from by unfold nodeM; exact decide_eq_true (by omega))
            have HRT := Lib.hid HC1.out.row
            go_wp2
            clear p0 p1 p2 q1 q2 dq1 dq2 dq3
            go_loopw [4] (fun i wr => ∃ k : Nat, k ≤ c.T.length ∧ i = .int .i64 k ∧ Hid ((c.T.take k).all ThrV.right = true) ∧ Below W1.heap.size W1 wr) (fun i _ => c.T.length - (intOf i).toNat)
            case atStart => exact ⟨0, Nat.zero_le _, rfl, Lib.hid rfl, Below.refl _ _⟩
            case round =>
              clear hbel
              obtain ⟨k, hk, rfl, HC, hbel⟩ := hrel
              by_cases hlt : k < c.T.length
              · have hd : decide ((k : Int) < (c.T.length : Int)) = true := decide_eq_true (by omega)
                have hki : (k : Int) < (c.T.length : Int) := by omega
                have hk0 : (0 : Int) ≤ (k : Int) := by omega
                obtain ⟨x, hx⟩ : ∃ x, c.T[k]? = some x := ⟨c.T[k], List.getElem?_eq_getElem hlt⟩
                obtain ⟨bc, oc, ec, _, hcc⟩ := (HRT.out).elem ThrV.cells_len (by omega) hx
                subst ec
                have c0 := keep (hcc 0 _ rfl)
                have c1 := keep (hcc 1 _ rfl)
                have c2 := keep (hcc 2 _ rfl)
                have c3 := keep (hcc 3 _ rfl)
                have c4 := keep (hcc 4 _ rfl)
                rw [Nat.add_zero] at c0
                have HX := Lib.hid hx
                have CR := Lib.hid (fun u => ref_Right x.sig x.pct x.amt x.grace x.soft u)
                clear hx hcc
                have hnx : (c.T.take (k + 1)).all ThrV.right = x.right := by rw [List.take_add_one, HX.out, List.all_append, HC.out]; simp
                have HN2 := Lib.hid hnx
                clear hnx
                obtain ⟨r, hr⟩ : ∃ r, x.right = r := ⟨_, rfl⟩
                have hr2 : (⟨x.sig, x.pct, x.amt, x.soft, x.grace⟩ : ThrV).right = r := hr
                rw [hr2] at CR
                rw [hr] at HN2
                clear hr hr2
                cases r with
                | true =>
                  go_wp2_with (go_at_call 22; (with_reducible refine (CR.out _).mono ?_); rintro e w3 ⟨rfl, hb3⟩; have HB3 := Lib.hid (belStep hbel hb3); clear hb3)
                  go_roundw
                  case rel => exact ⟨k + 1, by omega, by push_cast; rfl, HN2, HB3.out⟩
                  case measure => simp [intOf] <;> omega
                | false =>
                  go_wp2_with (go_at_call 22; (with_reducible refine (CR.out _).mono ?_); rintro e w3 ⟨rfl, hb3⟩; have HB3 := Lib.hid (belStep hbel hb3); clear hb3)
                  go_ret
                  exact ⟨congrArg (fun z => Ending.returned (.bool z)) (Eq.symm (show rightM c = false from by unfold rightM thrM; rw [show c.T.all ThrV.right = false from by rw [← List.take_append_drop (k + 1) c.T, List.all_append, HN2.out]; rfl]; simp)), belStep HW.out HB3.out⟩
              · obtain rfl : k = c.T.length := by omega
                rw [List.take_length] at HC
                have hd : decide ((c.T.length : Int) < (c.T.length : Int)) = false := decide_eq_false (by omega)
                by_cases z0 : 1 ≤ c.per
                · have dz0 : decide (1 ≤ c.per) = true := decide_eq_true z0
                  by_cases z1 : c.per ≤ 1000
                  · have dz1 : decide (c.per ≤ 1000) = true := decide_eq_true z1
                    by_cases z2 : 1 ≤ c.age
                    · have dz2 : decide (1 ≤ c.age) = true := decide_eq_true z2
                      by_cases z3 : c.age ≤ 1000
                      · have dz3 : decide (c.age ≤ 1000) = true := decide_eq_true z3
                        by_cases z4 : 0 ≤ c.ret
                        · have dz4 : decide (0 ≤ c.ret) = true := decide_eq_true z4
                          by_cases z5 : c.ret ≤ 20
                          · have dz5 : decide (c.ret ≤ 20) = true := decide_eq_true z5
                            by_cases z6 : 0 ≤ c.dead
                            · have dz6 : decide (0 ≤ c.dead) = true := decide_eq_true z6
                              by_cases z7 : c.dead ≤ 100
                              · have dz7 : decide (c.dead ≤ 100) = true := decide_eq_true z7
                                go_wp2
                                go_ret
                                exact ⟨congrArg (fun z => Ending.returned (.bool z)) (Eq.symm (show rightM c = true from by unfold rightM thrM numM; rw [HN.out, HC.out, decide_eq_true (show c.T.length ≤ 12 by omega), decide_eq_true (by omega)]; rfl)), belStep HW.out hbel⟩
                              · have dz7 : decide (c.dead ≤ 100) = false := decide_eq_false z7
                                go_wp2
                                go_ret
                                exact ⟨congrArg (fun z => Ending.returned (.bool z)) (Eq.symm (show rightM c = false from by unfold rightM numM; rw [decide_eq_false (by omega)]; simp)), belStep HW.out hbel⟩
                            · have dz6 : decide (0 ≤ c.dead) = false := decide_eq_false z6
                              go_wp2
                              go_ret
                              exact ⟨congrArg (fun z => Ending.returned (.bool z)) (Eq.symm (show rightM c = false from by unfold rightM numM; rw [decide_eq_false (by omega)]; simp)), belStep HW.out hbel⟩
                          · have dz5 : decide (c.ret ≤ 20) = false := decide_eq_false z5
                            go_wp2
                            go_ret
                            exact ⟨congrArg (fun z => Ending.returned (.bool z)) (Eq.symm (show rightM c = false from by unfold rightM numM; rw [decide_eq_false (by omega)]; simp)), belStep HW.out hbel⟩
                        · have dz4 : decide (0 ≤ c.ret) = false := decide_eq_false z4
                          go_wp2
                          go_ret
                          exact ⟨congrArg (fun z => Ending.returned (.bool z)) (Eq.symm (show rightM c = false from by unfold rightM numM; rw [decide_eq_false (by omega)]; simp)), belStep HW.out hbel⟩
                      · have dz3 : decide (c.age ≤ 1000) = false := decide_eq_false z3
                        go_wp2
                        go_ret
                        exact ⟨congrArg (fun z => Ending.returned (.bool z)) (Eq.symm (show rightM c = false from by unfold rightM numM; rw [decide_eq_false (by omega)]; simp)), belStep HW.out hbel⟩
                    · have dz2 : decide (1 ≤ c.age) = false := decide_eq_false z2
                      go_wp2
                      go_ret
                      exact ⟨congrArg (fun z => Ending.returned (.bool z)) (Eq.symm (show rightM c = false from by unfold rightM numM; rw [decide_eq_false (by omega)]; simp)), belStep HW.out hbel⟩
                  · have dz1 : decide (c.per ≤ 1000) = false := decide_eq_false z1
                    go_wp2
                    go_ret
                    exact ⟨congrArg (fun z => Ending.returned (.bool z)) (Eq.symm (show rightM c = false from by unfold rightM numM; rw [decide_eq_false (by omega)]; simp)), belStep HW.out hbel⟩
                · have dz0 : decide (1 ≤ c.per) = false := decide_eq_false z0
                  go_wp2
                  go_ret
                  exact ⟨congrArg (fun z => Ending.returned (.bool z)) (Eq.symm (show rightM c = false from by unfold rightM numM; rw [decide_eq_false (by omega)]; simp)), belStep HW.out hbel⟩
end Go.Proofs.YtcaenbobfneejaaGreatDoor
