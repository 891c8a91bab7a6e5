
/- Pods' bytes: plain mathematics. -/
import Derived.Test.YtpmkhimmlpnbpaaPod1
import Derived.Test.YtpmkhimmlpnbpaaOwn
import Derived.Lib.AppendStr
namespace Go.Proofs.Ytpmkhimmlpnbpaa
open Go.RowKit
set_option linter.unusedVariables false
set_option linter.unusedSimpArgs false

def Bytes (l : List Int) : Prop := ∀ c ∈ l, 0 ≤ c ∧ c ≤ 255
theorem Bytes.app {a b : List Int} (ha : Bytes a) (hb : Bytes b) : Bytes (a ++ b) := fun c hc => (List.mem_append.1 hc).elim (ha c) (hb c)
theorem Bytes.nil : Bytes [] := fun c hc => by cases hc
theorem Bytes.one {c : Int} (h : 0 ≤ c ∧ c ≤ 255) : Bytes [c] := fun d hd => by simp at hd; subst hd; exact h
theorem wf8 (n : Int) (h : 0 ≤ n ∧ n ≤ 255) : (Lit.int .u8 n).wf = true := WalkArith.wf_u8 ⟨h.1, h.2⟩
theorem bytes_of {w : World} {a : Option Addr} {len cap : Nat} {l : List Int} (h : Ints .u8 w a len cap l) : Bytes l := fun c hc => in8_of_wf (h.2 c hc)
/-- The bytes of a text. -/
def sbl (s : ByteArray) : List Int := s.data.toList.map fun b => (b.toNat : Int)
theorem sbl_len (s : ByteArray) : (sbl s).length = s.size := by unfold sbl; simp
theorem sbl_bytes (s : ByteArray) : Bytes (sbl s) := fun c hc => by
  obtain ⟨b, _, rfl⟩ := List.mem_map.1 hc
  have := b.toNat_lt
  simp at this; omega
theorem sbl_cells (s : ByteArray) : Lib.strCells s = (sbl s).map (Value.int .u8) := by unfold Lib.strCells sbl; simp
theorem toNat_list_inj : ∀ {a b : List UInt8}, a.map (fun b => (b.toNat : Int)) = b.map (fun b => (b.toNat : Int)) → a = b
  | [], [], _ => rfl
  | [], y :: b, h => by simp at h
  | x :: a, [], h => by simp at h
  | x :: a, y :: b, h => by
    simp only [List.map_cons, List.cons.injEq] at h
    have e : x.toNat = y.toNat := by have := h.1; omega
    rw [UInt8.toNat_inj.1 e, toNat_list_inj h.2]
theorem sbl_inj {s t : ByteArray} (h : sbl s = sbl t) : s = t := by
  have h2 : s.data.toList = t.data.toList := toNat_list_inj h
  cases s; cases t
  exact congrArg ByteArray.mk (Array.ext' h2)
/-- Eight bytes of a number, the highest first. -/
def W8 (n : Nat) : List Int := (List.range 8).map fun j => ((n / 2 ^ (56 - 8 * j) % 256 : Nat) : Int)
theorem W8_len (n : Nat) : (W8 n).length = 8 := by simp [W8]
theorem W8_bytes (n : Nat) : Bytes (W8 n) := fun c hc => by
  obtain ⟨j, _, rfl⟩ := List.mem_map.1 hc
  omega
theorem W8_take (n j : Nat) (h : j < 8) : (W8 n).take (j + 1) = (W8 n).take j ++ [((n / 2 ^ (56 - 8 * j) % 256 : Nat) : Int)] := by
  rw [List.take_succ_eq_append_getElem (by rw [W8_len]; exact h)]
  congr 2
  simp [W8]
/-- The number that eight bytes, the highest first, stand for. -/
def N8 (l : List Int) : Nat := l.foldl (fun n c => n * 256 + c.toNat) 0
theorem N8_W8 {n : Nat} (h : n < 2 ^ 64) : N8 (W8 n) = n := by
  have e : W8 n = [((n / 2 ^ 56 % 256 : Nat) : Int), ((n / 2 ^ 48 % 256 : Nat) : Int), ((n / 2 ^ 40 % 256 : Nat) : Int), ((n / 2 ^ 32 % 256 : Nat) : Int), ((n / 2 ^ 24 % 256 : Nat) : Int), ((n / 2 ^ 16 % 256 : Nat) : Int), ((n / 2 ^ 8 % 256 : Nat) : Int), ((n / 2 ^ 0 % 256 : Nat) : Int)] := rfl
  rw [e]
  simp only [N8, List.foldl_cons, List.foldl_nil, Int.toNat_natCast]
  omega
theorem W8_inj {n m : Nat} (hn : n < 2 ^ 64) (hm : m < 2 ^ 64) (h : W8 n = W8 m) : n = m := by rw [← N8_W8 hn, ← N8_W8 hm, h]

/-- The pod's numbers, in the order of its bytes. -/
def PodV.nums (p : PodV) : List Nat := [(p.prio + 1073741824).toNat, p.size.toNat, p.r0.toNat, p.r1.toNat, p.r2.toNat, p.l0.toNat, p.l1.toNat, p.l2.toNat]
def PodV.head (p : PodV) : List Int := [(p.id.size : Int)] ++ (sbl p.id ++ ([(p.img.size : Int)] ++ sbl p.img))
def PodV.bytes (p : PodV) : List Int := p.head ++ (p.nums.flatMap W8 ++ [if p.crit then 1 else 0])
theorem nameB_size {s : ByteArray} (h : nameB s = true) : 1 ≤ s.size ∧ s.size ≤ 24 := by
  unfold nameB at h
  simp at h
  omega
structure PodV.Fine (p : PodV) : Prop where
  id : nameB p.id = true
  img : nameB p.img = true
  prio : -1073741824 ≤ p.prio ∧ p.prio ≤ 1073741824
  size : 0 ≤ p.size
  r0 : 0 ≤ p.r0
  r1 : 0 ≤ p.r1
  r2 : 0 ≤ p.r2
  l0 : 0 ≤ p.l0
  l1 : 0 ≤ p.l1
  l2 : 0 ≤ p.l2
theorem PodV.fine {p : PodV} (h : rightB p = true) : p.Fine := by
  unfold rightB okr at h
  simp only [Bool.and_eq_true, decide_eq_true_eq] at h
  obtain ⟨⟨⟨⟨⟨⟨⟨⟨⟨a, b⟩, _⟩, ⟨⟨c, d⟩, _⟩⟩, ⟨⟨e, f⟩, _⟩⟩, g⟩, i⟩, j⟩, k⟩, m⟩ := h
  exact ⟨g, i, ⟨j, k⟩, m, a, c, e, b, d, f⟩
theorem flat8_len (l : List Nat) : (l.flatMap W8).length = l.length * 8 := by
  induction l with
  | nil => rfl
  | cons x l ih => rw [List.flatMap_cons, List.length_append, W8_len, ih, List.length_cons]; omega
theorem flat8_bytes (l : List Nat) : Bytes (l.flatMap W8) := fun c hc => by
  obtain ⟨n, _, h⟩ := List.mem_flatMap.1 hc
  exact W8_bytes n c h
theorem PodV.head_len (p : PodV) : p.head.length = p.id.size + p.img.size + 2 := by
  unfold PodV.head
  simp only [List.length_append, sbl_len, List.length_cons, List.length_nil]; omega
theorem PodV.bytes_len (p : PodV) : p.bytes.length = p.id.size + p.img.size + 67 := by
  unfold PodV.bytes
  rw [List.length_append, List.length_append, flat8_len, PodV.head_len]
  simp [PodV.nums]
theorem PodV.head_B {p : PodV} (h : p.Fine) : Bytes p.head := by
  have h1 := nameB_size h.id
  have h2 := nameB_size h.img
  exact (Bytes.one (by omega)).app ((sbl_bytes _).app ((Bytes.one (by omega)).app (sbl_bytes _)))
theorem PodV.bytes_B {p : PodV} (h : p.Fine) : Bytes p.bytes := (PodV.head_B h).app ((flat8_bytes _).app (Bytes.one (by split <;> omega)))

/-- 'append(own, s...)', a text. -/
theorem wpList_app_str {P : Program} {w : World} {ops : Array Oper} {rest : List Oper} {o : Oper} {a : Act} {Q : Exit → Act → World → Prop} (hgd : o.guard = none) (sl x : Operand) (t u : TypeId)
    (ho : o.op = .call { callee := .builtin .append, args := #[sl, x], argTypes := #[t, u] })
    (B : Nat) (e : TypeId) (ht : P.underlying t = some (.slice e)) (hu : P.underlying u = some .string) (hi : (P.info? e).map (fun i => (i.zero, i.size, i.bytes)) = some (some (.int .u8 0), 1, 1))
    (v : Value) (l : List Int) (hs : a.eval sl = v) (hown : OwnI w B e .u8 v l) (s : ByteArray) (hx : a.eval x = .string s)
    (hm : l.length + s.size ≤ 1000000) (hB : B ≤ w.heap.size)
    (h : ∀ v' w', OwnI w' B e .u8 v' (l ++ sbl s) → Below B w w' → w.grownBy w' v.ownBlock → wpList P ops Q rest (a.put o.dst v') w') : wpList P ops Q (o :: rest) a w := by
  obtain ⟨i, hi0, hz, hsz, hbs⟩ : ∃ i, P.info? e = some i ∧ i.zero = some (.int .u8 0) ∧ i.size = 1 ∧ i.bytes = 1 := by
    cases hp : P.info? e with
    | none => rw [hp] at hi; simp at hi
    | some i => rw [hp] at hi; simp at hi; exact ⟨i, rfl, hi.1, hi.2.1, hi.2.2⟩
  refine Lib.wpList_append_own_string w hgd sl x t u ho B e i ht hu hi0 hz hsz hbs v l.length (l.map (Value.int .u8)) hs hown s hx (by unfold maxLen; omega) (by omega) hB (fun v' w' h1 h2 _ => h v' w' ?_ ((Below.refl B w).grown h2 hB fun q hq => (World.ownsRow.lt hown q hq).1) h2)
  unfold OwnI
  rw [List.map_append, List.length_append, sbl_len, ← sbl_cells]
  exact h1
theorem Blk.grown {w w' : World} {M : Nat} {C : List Value} {T : TypeId} {v : Value} (h : Blk w M C T) (hg : w.grownBy w' v.ownBlock) (hne : v.ownBlock ≠ some M) : Blk w' M C T := by
  have hl := h.lt
  unfold Blk at *
  rw [hg.block M hl (fun e => hne e.symm)]; exact h
/-- The pod's cells, its priority raised. -/
def PodV.raised (p : PodV) : List Value := [.string p.id, .int .i64 (p.prio + 1073741824), .bool p.crit, .int .i64 p.r0, .int .i64 p.r1, .int .i64 p.r2, .int .i64 p.l0, .int .i64 p.l1, .int .i64 p.l2, .string p.img, .int .i64 p.size]
/-- The pointers to a pod's numbers. -/
def ptrs (M : Nat) : List Value := [1, 10, 3, 4, 5, 6, 7, 8].map fun o : Nat => Value.pointer (some ⟨M, o, none⟩)
theorem ptr_case {p : PodV} (hp : p.ok) (h : p.Fine) (M m : Nat) (hm : m < 8) : ∃ o nv : Nat, (ptrs M)[m]? = some (.pointer (some ⟨M, o, none⟩)) ∧ p.nums[m]? = some nv ∧ p.raised[o]? = some (.int .i64 nv) ∧ nv < 9223372036854775808 := by
  obtain ⟨_, _, b0, b1, b2, b3, b4, b5, b6, b7⟩ := hp
  unfold InI at *
  have h0 := h.prio
  have c1 := h.size
  have c2 := h.r0
  have c3 := h.r1
  have c4 := h.r2
  have c5 := h.l0
  have c6 := h.l1
  have c7 := h.l2
  have e : ∀ x : Int, 0 ≤ x → some (Value.int .i64 x) = some (Value.int .i64 (x.toNat : Int)) := fun x hx => by rw [Int.toNat_of_nonneg hx]
  match m, hm with
  | 0, _ => exact ⟨1, _, rfl, rfl, e _ (by omega), by omega⟩
  | 1, _ => exact ⟨10, _, rfl, rfl, e _ (by omega), by omega⟩
  | 2, _ => exact ⟨3, _, rfl, rfl, e _ (by omega), by omega⟩
  | 3, _ => exact ⟨4, _, rfl, rfl, e _ (by omega), by omega⟩
  | 4, _ => exact ⟨5, _, rfl, rfl, e _ (by omega), by omega⟩
  | 5, _ => exact ⟨6, _, rfl, rfl, e _ (by omega), by omega⟩
  | 6, _ => exact ⟨7, _, rfl, rfl, e _ (by omega), by omega⟩
  | 7, _ => exact ⟨8, _, rfl, rfl, e _ (by omega), by omega⟩
theorem nums_snoc {p : PodV} {m nv : Nat} (h : p.nums[m]? = some nv) : (p.nums.take (m + 1)).flatMap W8 = (p.nums.take m).flatMap W8 ++ W8 nv := by
  rw [List.take_add_one, h, List.flatMap_append]; simp
end Go.Proofs.Ytpmkhimmlpnbpaa
