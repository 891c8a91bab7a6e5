
/- The appends of a region that draws its order, guarded ones, too. -/
import Derived.Test.YtbifmmdiekodjaaVicT
namespace Go.Proofs.Ytbifmmdiekodjaa
open Go.RowKit
set_option linter.unusedVariables false
section
variable {P : Program} {w : World} {o : Oper} {a : Act} {K : Act → World → Prop} {Q : Exit → Act → World → Prop} {E : Prop}
theorem op_firstG {ops : Array Oper} {tm : Array Value} (hw : Region.wanted o (yielded ops tm) = true) (s x : Operand) (t : TypeId)
    (ho : o.op = .call { callee := .builtin .append, args := #[s, x], argTypes := #[t, t] })
    (B : Nat) (e : TypeId) (z : Value) (size bytes : Nat) (ht : P.underlying t = some (.slice e)) (hi : (P.info? e).map (fun i => (i.zero, i.size, i.bytes)) = some (some z, size, bytes))
    (hzs : z.cells.size = size) (hsz : 0 < size)
    (g : Nat) (hs : a.eval s = .slice (some ⟨g, 0, none⟩) 0 0) (hown : OwnR w B e size (.slice (some ⟨g, 0, none⟩) 0 0) 0 [])
    (sa : Option Addr) (len cap : Nat) (ds : List Value) (hx : a.eval x = .slice sa len cap) (hr : Row w sa len cap size ds) (hone : ∀ u ∈ ds, u.oneCell' = true)
    (hm : len ≤ maxLen) (hby : len * bytes ≤ 140737488355328) (hB : B ≤ w.heap.size)
    (h : ∀ v' w', OwnR w' B e size v' len ds → Below w.heap.size w w' → K (a.put o.dst v') w') : if Region.wanted o (yielded ops tm) = true then Oper.wp P o a w K Q else E := by
  rw [if_pos hw]
  have h1 := op_first (o := { o with guard := none }) (a := a) (K := K) (Q := Q) (E := E) (ops := ops) (tm := tm) rfl s x t ho B e z size bytes ht hi hzs hsz g hs hown sa len cap ds hx hr hone hm hby hB h
  rw [if_pos (by simp [Region.wanted])] at h1
  exact h1
theorem op_appG {ops : Array Oper} {tm : Array Value} (hw : Region.wanted o (yielded ops tm) = true) (s x : Operand) (t : TypeId)
    (ho : o.op = .call { callee := .builtin .append, args := #[s, x], argTypes := #[t, t] })
    (B : Nat) (e : TypeId) (z : Value) (size bytes : Nat) (ht : P.underlying t = some (.slice e)) (hi : (P.info? e).map (fun i => (i.zero, i.size, i.bytes)) = some (some z, size, bytes))
    (hzs : z.cells.size = size) (hsz : 0 < size)
    (v : Value) (n : Nat) (cs : List Value) (hs : a.eval s = v) (hown : OwnR w B e size v n cs)
    (sa : Option Addr) (len cap : Nat) (ds : List Value) (hx : a.eval x = .slice sa len cap) (hr : Row w sa len cap size ds) (hone : ∀ u ∈ ds, u.oneCell' = true)
    (hm : n + len ≤ maxLen) (hby : (n + len) * bytes ≤ 140737488355328) (hB : B ≤ w.heap.size)
    (h : ∀ v' w', OwnR w' B e size v' (n + len) (cs ++ ds) → Below B w w' → K (a.put o.dst v') w') : if Region.wanted o (yielded ops tm) = true then Oper.wp P o a w K Q else E := by
  rw [if_pos hw]
  have h1 := op_appO (o := { o with guard := none }) (a := a) (K := K) (Q := Q) (E := E) (ops := ops) (tm := tm) rfl s x t ho B e z size bytes ht hi hzs hsz v n cs hs hown sa len cap ds hx hr hone hm hby hB h
  rw [if_pos (by simp [Region.wanted])] at h1
  exact h1
end
theorem cells_false {y : PodV} (h : y.crit = false) : [.string y.id, .int .i64 y.prio, .bool false, .int .i64 y.r0, .int .i64 y.r1, .int .i64 y.r2, .int .i64 y.l0, .int .i64 y.l1, .int .i64 y.l2, .string y.img, .int .i64 y.size] = y.cells := by
  unfold PodV.cells; rw [h]
end Go.Proofs.Ytbifmmdiekodjaa
