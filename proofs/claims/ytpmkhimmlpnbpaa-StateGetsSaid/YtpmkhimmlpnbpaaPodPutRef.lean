
/- bilgeref12.Put: contract. -/
import Derived.Test.YtpmkhimmlpnbpaaPodWord
import Derived.Lib.ConvBytes
namespace Go.Proofs.Ytpmkhimmlpnbpaa
open Go.RowKit
set_option linter.unusedVariables false
set_option linter.unusedSimpArgs false

theorem own_row {w : World} {B : Nat} {e : TypeId} {k : IntKind} {a : Option Addr} {n c : Nat} {l : List Int} (h : OwnI w B e k (.slice a n c) l) (hw : ∀ x ∈ l, (Lit.int k x).wf = true) : Row w a n c 1 (l.map (Value.int k)) := by
  obtain ⟨a', c', e1, h1⟩ := ints_of_own h hw
  simp at e1
  obtain ⟨rfl, rfl, rfl⟩ := e1
  exact h1.1
theorem ints_mk {w : World} {k : IntKind} {a : Option Addr} {n cap : Nat} {l : List Int} (h : Row w a n cap 1 (l.map (Value.int k))) (hw : ∀ x ∈ l, (Lit.int k x).wf = true) : Ints k w a n cap l := ⟨h, hw⟩
theorem sep_newI {u u' : World} {B : Nat} {e : TypeId} {k : IntKind} {v y : Value} {l m : List Int} (hv : OwnI u B e k v l) (hy : OwnI u' u.heap.size e k y m) : Sep v y := fun q h1 h2 => by
  have a := (World.ownsRow.lt hv q h1).2
  have b := (World.ownsRow.lt hy q h2).1
  omega
theorem bel_bytes (w : World) (e : TypeId) (s : ByteArray) : Below w.heap.size w (Lib.bytesWorld w e s) := ⟨rfl, rfl, rfl, by rw [Lib.bytesWorld_size]; omega, fun b hb => Lib.bytesWorld_at_old w e s b hb⟩
theorem row_bytes (w : World) (e : TypeId) (s : ByteArray) (hm : s.size ≤ 1000000) : Row (Lib.bytesWorld w e s) (some ⟨w.heap.size, 0, none⟩) s.size (grownCap w s.size 0 e) 1 ((sbl s).map (Value.int .u8)) := by
  refine ⟨by simp [sbl_len], grownCap_ge _ _ _ _, grownCap_le_maxLen _ _ _ _ (by unfold maxLen; omega), (fun h => by cases h), .inr ⟨_, _, rfl, fun i hi => ?_⟩⟩
  simp [sbl_len] at hi
  rw [Nat.zero_add, Lib.bytesWorld_cell w e s i hi]
  unfold sbl
  have h2 : i < s.data.toList.length := by simpa using hi
  rw [List.getElem?_map, List.getElem?_map, List.getElem?_eq_getElem h2, List.getD_eq_getElem?_getD, List.getElem?_eq_getElem h2]
  rfl
theorem pref_word' (x : Int) (w : World) (h0 : 0 ≤ x) (h1 : x ≤ 9223372036854775807) : Calls Try.prog 52 #[.int .i64 x] w fun e w' => ∃ v, e = .returned v ∧ OwnI w' w.heap.size 5 .u8 v (W8 x.toNat) ∧ Below w.heap.size w w' := by
  have h := pref_word x.toNat w (by omega)
  rw [Int.toNat_of_nonneg h0] at h
  exact h
theorem pref_word_w (x : Int) (w : World) (h0 : 0 ≤ x) (h1 : x ≤ 9223372036854775807) : Calls Try.prog 52 #[.int .i64 (IntKind.i64.wrap x)] w fun e w' => ∃ v, e = .returned v ∧ OwnI w' w.heap.size 5 .u8 v (W8 x.toNat) ∧ Below w.heap.size w w' := by
  rw [IntWalk.i64_in x (by omega)]
  exact pref_word' x w h0 h1
theorem row_bytes_at (w : World) (g : Nat) (hg : g = w.heap.size) (e : TypeId) (s : ByteArray) (hm : s.size ≤ 1000000) : Row (Lib.bytesWorld w e s) (some ⟨g, 0, none⟩) s.size (grownCap w s.size 0 e) 1 ((sbl s).map (Value.int .u8)) := hg ▸ row_bytes w e s hm
theorem own_ne {w : World} {B : Nat} {e : TypeId} {k : IntKind} {v : Value} {l : List Int} (h : OwnI w B e k v l) : v.ownBlock ≠ some w.heap.size := fun q => absurd (World.ownsRow.lt h _ q).2 (Nat.lt_irrefl _)
theorem row_grown {w w' : World} {g n cap size : Nat} {cs : List Value} {v : Value} (h : Row w (some ⟨g, 0, none⟩) n cap size cs) (hg : w.grownBy w' v.ownBlock) (hne : v.ownBlock ≠ some g) (hl : g < w.heap.size) : Row w' (some ⟨g, 0, none⟩) n cap size cs := by
  obtain ⟨h1, h2, h3, h4, h5⟩ := h
  refine ⟨h1, h2, h3, h4, h5.imp id ?_⟩
  rintro ⟨b, off, e1, hc⟩
  cases e1
  refine ⟨_, _, rfl, fun i hi => ?_⟩
  rw [← hc i hi]
  unfold World.cell?
  rw [hg.block g hl (fun e => hne e.symm)]
theorem mk_step {K' : World → Prop} {u : World} {c : Int} {e : TypeId} (h : ∀ w', Row w' (some ⟨u.heap.size, 0, none⟩) 1 1 1 ([c].map (Value.int .u8)) → Below u.heap.size u w' → u.heap.size < w'.heap.size → K' w') : K' (u.alloc (.cells #[.int .u8 c] e)) := by
  refine h _ ?_ (belAlloc (Below.refl _ _) _) (by simp)
  refine ⟨rfl, Nat.le_refl _, by unfold maxLen; omega, (fun h => by cases h), .inr ⟨_, _, rfl, fun i hi => ?_⟩⟩
  simp at hi
  subst hi
  simp
theorem W8_wf (n : Nat) : ∀ x ∈ W8 n, (Lit.int .u8 x).wf = true := fun x hx => wf8 x (W8_bytes n x hx)
theorem W8_ne (n : Nat) : W8 n ≠ [] := fun h => by have := W8_len n; rw [h] at this; simp at this
section
variable {P : Program} {md : Region.Mode} {ops : Array Oper} {Q : Exit → Act → World → Prop} {S : World → Prop}
theorem phase {fuel : Nat} {listed : Array Bool} {a : Act} {w : World} (fuel2 : Nat) (listed2 : Array Bool) (Pre : Act → World → Prop)
    (rest : ∀ a w, S w → Pre a w → wpAnyH P md ops Q S fuel2 listed2 a w)
    (first : RowKit.Hid (∀ a w, S w → Pre a w → wpAnyH P md ops Q S fuel2 listed2 a w) → wpAnyH P md ops Q S fuel listed a w) : wpAnyH P md ops Q S fuel listed a w := first (Lib.hid rest)
theorem relist {fuel : Nat} {listed listed2 : Array Bool} {a : Act} {w : World} (h : listed = listed2) (h2 : wpAnyH P md ops Q S fuel listed2 a w) : wpAnyH P md ops Q S fuel listed a w := h ▸ h2
end
section
variable {P : Program} {w : World} {o : Oper} {a : Act} {K : Act → World → Prop} {Q : Exit → Act → World → Prop} {E : Prop}
/-- 'append(own, row...)' as one operation of a region that draws its order. -/
theorem op_app {ops : Array Oper} (hg : o.guard = none) (s x : Operand) (t : TypeId)
    (ho : o.op = .call { callee := .builtin .append, args := #[s, x], argTypes := #[t, t] })
    (B : Nat) (e : TypeId) (k : IntKind) (bytes : Nat) (ht : P.underlying t = some (.slice e)) (hi : (P.info? e).map (fun i => (i.zero, i.size, i.bytes)) = some (some (.int k 0), 1, bytes))
    (v : Value) (l : List Int) (hs : a.eval s = v) (hown : OwnI w B e k v l)
    (sa : Option Addr) (len cap : Nat) (zs : List Int) (hx : a.eval x = .slice sa len cap) (hr : Row w sa len cap 1 (zs.map (Value.int k))) (hne : zs ≠ [])
    (hm : l.length + len ≤ maxLen) (hby : (l.length + len) * bytes ≤ 140737488355328) (hB : B ≤ w.heap.size)
    (h : ∀ v' w', OwnI w' B e k v' (l ++ zs) → Below B w w' → w.grownBy w' v.ownBlock → K (a.put o.dst v') w') : if Region.wanted o (yielded ops a.tmps) = true then Oper.wp P o a w K Q else E := by
  have hw : Region.wanted o (yielded ops a.tmps) = true := by simp [Region.wanted, hg]
  rw [if_pos hw]
  obtain ⟨i, hi0, hz, hszi, hbs⟩ : ∃ i, P.info? e = some i ∧ i.zero = some (.int k 0) ∧ i.size = 1 ∧ i.bytes = bytes := by
    cases hp : P.info? e with
    | none => rw [hp] at hi; simp at hi
    | some i => rw [hp] at hi; simp at hi; exact ⟨i, rfl, hi.1, hi.2.1, hi.2.2⟩
  obtain ⟨r1, r2, r3, r4, r5⟩ := hr
  have hzl : zs.length = len := by simpa using r1
  cases sa with
  | none =>
    obtain ⟨rfl, rfl⟩ := r4 rfl
    exact absurd (List.eq_nil_of_length_eq_zero hzl) hne
  | some ad =>
    have hnews : ∀ j u, (zs.map (Value.int k))[j]? = some u → w.cell? (ad.add j) = some u := by
      intro j u hj
      rcases r5 with r5 | ⟨b, off, e1, hc⟩
      · rw [r5] at hj; cases hj
      · cases e1
        have hjl : j < (zs.map (Value.int k)).length := by
          rcases Nat.lt_or_ge j (zs.map (Value.int k)).length with q | q
          · exact q
          · rw [List.getElem?_eq_none q] at hj; cases hj
        have := hc j hjl
        rw [hj] at this
        have e2 : (⟨b, off, none⟩ : Addr).add j = ⟨b, off + j, none⟩ := by cases j <;> simp [Addr.add]
        rw [e2]; exact this
    have hone : ∀ u ∈ zs.map (Value.int k), u.oneCell' = true := by
      intro u hu
      obtain ⟨n, _, rfl⟩ := List.mem_map.1 hu
      rfl
    obtain ⟨v', w', hrun, h2, h3, _⟩ := run_append_own (P := P) w B t o.type e i (.int k 0) 1 bytes ht hi0 hz hszi hbs rfl (by decide) v l.length (l.map (Value.int k)) hown ad len cap (zs.map (Value.int k)) r1 hnews hone hm hby hB
    unfold Oper.wp execOp
    simp only [ho, resolve, invoke, builtin, Sem.run_bind, Sem.run_pure, Result.andThen_ok, List.map_toArray, List.map_cons, List.map_nil, hs, hx, hrun]
    refine h v' w' ?_ ((Below.refl B w).grown h3 hB fun q hq => (World.ownsRow.lt hown q hq).1) h3
    unfold OwnI
    rw [List.map_append, List.length_append, hzl]
    exact h2
/-- '[]byte(s)' as one operation of such a region. -/
theorem op_conv {ops : Array Oper} (hg : o.guard = none) (x : Operand) (src dst e : TypeId) (ho : o.op = .convert src dst x) (hs : P.underlying src = some .string) (hd : P.underlying dst = some (.slice e)) (he : P.underlying e = some (.int .u8))
    (s : ByteArray) (hx : a.eval x = .string s) (hm : s.size ≤ 1000000)
    (h : ∀ cap w', Row w' (some ⟨w.heap.size, 0, none⟩) s.size cap 1 ((sbl s).map (Value.int .u8)) → Below w.heap.size w w' → w.heap.size < w'.heap.size → K (a.put o.dst (.slice (some ⟨w.heap.size, 0, none⟩) s.size cap)) w') : if Region.wanted o (yielded ops a.tmps) = true then Oper.wp P o a w K Q else E := by
  have hw : Region.wanted o (yielded ops a.tmps) = true := by simp [Region.wanted, hg]
  rw [if_pos hw]
  have hrun := Lib.run_convert_string_bytes (P := P) w src dst e s hs hd he
  unfold Oper.wp execOp
  simp only [ho, Sem.run_bind, Sem.run_pure, Result.andThen_ok, hx, hrun]
  exact h _ _ (row_bytes w e s hm) (bel_bytes w e s) (by rw [Lib.bytesWorld_size]; omega)
end

set_option maxRecDepth 100000 in
set_option maxHeartbeats 16000000 in
theorem pref_Put (p : PodV) (w : World) (hp : p.ok) (hr : rightB p = true) : Calls Try.prog 36 #[.agg #[.string p.id, .int .i64 p.prio, .bool p.crit, .int .i64 p.r0, .int .i64 p.r1, .int .i64 p.r2, .int .i64 p.l0, .int .i64 p.l1, .int .i64 p.l2, .string p.img, .int .i64 p.size]] w fun e w' => ∃ v, e = .returned v ∧ OwnI w' w.heap.size 5 .u8 v p.bytes ∧ Below w.heap.size w w' := by
  have hw : Below w.heap.size w w := Below.refl _ _
  have hbel := hw
  have hf := PodV.fine hr
  have hs1 := nameB_size hf.id
  have hs2 := nameB_size hf.img
  have hprio := hf.prio
  have HBY := Lib.hid (show p.bytes = p.head ++ (p.nums.flatMap W8 ++ [if p.crit = true then 1 else 0]) from rfl)
  have HWI := Lib.hid (show IntKind.u8.wrap (p.img.size : Int) = (p.img.size : Int) by rw [wrap_u8]; omega)
  have NZ := Lib.hid (show sbl p.img ≠ [] from fun h => by have := sbl_len p.img; rw [h] at this; simp at this; omega)
  obtain ⟨_, _, q0, q1, q2, q3, q4, q5, q6, q7⟩ := hp
  unfold InI at *
  have HB0 := Lib.hid (show 0 ≤ p.prio + 1073741824 ∧ p.prio + 1073741824 ≤ 9223372036854775807 by omega)
  have HB1 := Lib.hid (show 0 ≤ p.size ∧ p.size ≤ 9223372036854775807 by have := hf.size; omega)
  have HB2 := Lib.hid (show 0 ≤ p.r0 ∧ p.r0 ≤ 9223372036854775807 by have := hf.r0; omega)
  have HB3 := Lib.hid (show 0 ≤ p.r1 ∧ p.r1 ≤ 9223372036854775807 by have := hf.r1; omega)
  have HB4 := Lib.hid (show 0 ≤ p.r2 ∧ p.r2 ≤ 9223372036854775807 by have := hf.r2; omega)
  have HB5 := Lib.hid (show 0 ≤ p.l0 ∧ p.l0 ≤ 9223372036854775807 by have := hf.l0; omega)
  have HB6 := Lib.hid (show 0 ≤ p.l1 ∧ p.l1 ≤ 9223372036854775807 by have := hf.l1; omega)
  have HB7 := Lib.hid (show 0 ≤ p.l2 ∧ p.l2 ≤ 9223372036854775807 by have := hf.l2; omega)
  clear hr hf q0 q1 q2 q3 q4 q5 q6 q7
  go_enter Try.func36, Try.ntmps36
  go_upto_region 1 with fail
  have a0 : (w.alloc (.cells #[.string p.id, .int .i64 p.prio, .bool p.crit, .int .i64 p.r0, .int .i64 p.r1, .int .i64 p.r2, .int .i64 p.l0, .int .i64 p.l1, .int .i64 p.l2, .string p.img, .int .i64 p.size] 44)).cell? ⟨w.heap.size, 0, none⟩ = some (.string p.id) := by first | (simp; done) | (rw [World.cell?_alloc_at _ _ _ _ (by simp)]; rfl) | (rw [World.cell?_alloc_past _ _ _ (by simp <;> omega), World.cell?_alloc_at _ _ _ _ (by simp)]; rfl) | (rw [World.cell?_alloc_past _ _ _ (by simp <;> omega), World.cell?_alloc_past _ _ _ (by simp <;> omega), World.cell?_alloc_at _ _ _ _ (by simp)]; rfl)
  have a1 : (w.alloc (.cells #[.string p.id, .int .i64 p.prio, .bool p.crit, .int .i64 p.r0, .int .i64 p.r1, .int .i64 p.r2, .int .i64 p.l0, .int .i64 p.l1, .int .i64 p.l2, .string p.img, .int .i64 p.size] 44)).cell? ⟨w.heap.size, 1, none⟩ = some (.int .i64 p.prio) := by first | (simp; done) | (rw [World.cell?_alloc_at _ _ _ _ (by simp)]; rfl) | (rw [World.cell?_alloc_past _ _ _ (by simp <;> omega), World.cell?_alloc_at _ _ _ _ (by simp)]; rfl) | (rw [World.cell?_alloc_past _ _ _ (by simp <;> omega), World.cell?_alloc_past _ _ _ (by simp <;> omega), World.cell?_alloc_at _ _ _ _ (by simp)]; rfl)
  have a2 : (w.alloc (.cells #[.string p.id, .int .i64 p.prio, .bool p.crit, .int .i64 p.r0, .int .i64 p.r1, .int .i64 p.r2, .int .i64 p.l0, .int .i64 p.l1, .int .i64 p.l2, .string p.img, .int .i64 p.size] 44)).cell? ⟨w.heap.size, 2, none⟩ = some (.bool p.crit) := by first | (simp; done) | (rw [World.cell?_alloc_at _ _ _ _ (by simp)]; rfl) | (rw [World.cell?_alloc_past _ _ _ (by simp <;> omega), World.cell?_alloc_at _ _ _ _ (by simp)]; rfl) | (rw [World.cell?_alloc_past _ _ _ (by simp <;> omega), World.cell?_alloc_past _ _ _ (by simp <;> omega), World.cell?_alloc_at _ _ _ _ (by simp)]; rfl)
  have a3 : (w.alloc (.cells #[.string p.id, .int .i64 p.prio, .bool p.crit, .int .i64 p.r0, .int .i64 p.r1, .int .i64 p.r2, .int .i64 p.l0, .int .i64 p.l1, .int .i64 p.l2, .string p.img, .int .i64 p.size] 44)).cell? ⟨w.heap.size, 3, none⟩ = some (.int .i64 p.r0) := by first | (simp; done) | (rw [World.cell?_alloc_at _ _ _ _ (by simp)]; rfl) | (rw [World.cell?_alloc_past _ _ _ (by simp <;> omega), World.cell?_alloc_at _ _ _ _ (by simp)]; rfl) | (rw [World.cell?_alloc_past _ _ _ (by simp <;> omega), World.cell?_alloc_past _ _ _ (by simp <;> omega), World.cell?_alloc_at _ _ _ _ (by simp)]; rfl)
  have a4 : (w.alloc (.cells #[.string p.id, .int .i64 p.prio, .bool p.crit, .int .i64 p.r0, .int .i64 p.r1, .int .i64 p.r2, .int .i64 p.l0, .int .i64 p.l1, .int .i64 p.l2, .string p.img, .int .i64 p.size] 44)).cell? ⟨w.heap.size, 4, none⟩ = some (.int .i64 p.r1) := by first | (simp; done) | (rw [World.cell?_alloc_at _ _ _ _ (by simp)]; rfl) | (rw [World.cell?_alloc_past _ _ _ (by simp <;> omega), World.cell?_alloc_at _ _ _ _ (by simp)]; rfl) | (rw [World.cell?_alloc_past _ _ _ (by simp <;> omega), World.cell?_alloc_past _ _ _ (by simp <;> omega), World.cell?_alloc_at _ _ _ _ (by simp)]; rfl)
  have a5 : (w.alloc (.cells #[.string p.id, .int .i64 p.prio, .bool p.crit, .int .i64 p.r0, .int .i64 p.r1, .int .i64 p.r2, .int .i64 p.l0, .int .i64 p.l1, .int .i64 p.l2, .string p.img, .int .i64 p.size] 44)).cell? ⟨w.heap.size, 5, none⟩ = some (.int .i64 p.r2) := by first | (simp; done) | (rw [World.cell?_alloc_at _ _ _ _ (by simp)]; rfl) | (rw [World.cell?_alloc_past _ _ _ (by simp <;> omega), World.cell?_alloc_at _ _ _ _ (by simp)]; rfl) | (rw [World.cell?_alloc_past _ _ _ (by simp <;> omega), World.cell?_alloc_past _ _ _ (by simp <;> omega), World.cell?_alloc_at _ _ _ _ (by simp)]; rfl)
  have a6 : (w.alloc (.cells #[.string p.id, .int .i64 p.prio, .bool p.crit, .int .i64 p.r0, .int .i64 p.r1, .int .i64 p.r2, .int .i64 p.l0, .int .i64 p.l1, .int .i64 p.l2, .string p.img, .int .i64 p.size] 44)).cell? ⟨w.heap.size, 6, none⟩ = some (.int .i64 p.l0) := by first | (simp; done) | (rw [World.cell?_alloc_at _ _ _ _ (by simp)]; rfl) | (rw [World.cell?_alloc_past _ _ _ (by simp <;> omega), World.cell?_alloc_at _ _ _ _ (by simp)]; rfl) | (rw [World.cell?_alloc_past _ _ _ (by simp <;> omega), World.cell?_alloc_past _ _ _ (by simp <;> omega), World.cell?_alloc_at _ _ _ _ (by simp)]; rfl)
  have a7 : (w.alloc (.cells #[.string p.id, .int .i64 p.prio, .bool p.crit, .int .i64 p.r0, .int .i64 p.r1, .int .i64 p.r2, .int .i64 p.l0, .int .i64 p.l1, .int .i64 p.l2, .string p.img, .int .i64 p.size] 44)).cell? ⟨w.heap.size, 7, none⟩ = some (.int .i64 p.l1) := by first | (simp; done) | (rw [World.cell?_alloc_at _ _ _ _ (by simp)]; rfl) | (rw [World.cell?_alloc_past _ _ _ (by simp <;> omega), World.cell?_alloc_at _ _ _ _ (by simp)]; rfl) | (rw [World.cell?_alloc_past _ _ _ (by simp <;> omega), World.cell?_alloc_past _ _ _ (by simp <;> omega), World.cell?_alloc_at _ _ _ _ (by simp)]; rfl)
  have a8 : (w.alloc (.cells #[.string p.id, .int .i64 p.prio, .bool p.crit, .int .i64 p.r0, .int .i64 p.r1, .int .i64 p.r2, .int .i64 p.l0, .int .i64 p.l1, .int .i64 p.l2, .string p.img, .int .i64 p.size] 44)).cell? ⟨w.heap.size, 8, none⟩ = some (.int .i64 p.l2) := by first | (simp; done) | (rw [World.cell?_alloc_at _ _ _ _ (by simp)]; rfl) | (rw [World.cell?_alloc_past _ _ _ (by simp <;> omega), World.cell?_alloc_at _ _ _ _ (by simp)]; rfl) | (rw [World.cell?_alloc_past _ _ _ (by simp <;> omega), World.cell?_alloc_past _ _ _ (by simp <;> omega), World.cell?_alloc_at _ _ _ _ (by simp)]; rfl)
  have a9 : (w.alloc (.cells #[.string p.id, .int .i64 p.prio, .bool p.crit, .int .i64 p.r0, .int .i64 p.r1, .int .i64 p.r2, .int .i64 p.l0, .int .i64 p.l1, .int .i64 p.l2, .string p.img, .int .i64 p.size] 44)).cell? ⟨w.heap.size, 9, none⟩ = some (.string p.img) := by first | (simp; done) | (rw [World.cell?_alloc_at _ _ _ _ (by simp)]; rfl) | (rw [World.cell?_alloc_past _ _ _ (by simp <;> omega), World.cell?_alloc_at _ _ _ _ (by simp)]; rfl) | (rw [World.cell?_alloc_past _ _ _ (by simp <;> omega), World.cell?_alloc_past _ _ _ (by simp <;> omega), World.cell?_alloc_at _ _ _ _ (by simp)]; rfl)
  have a10 : (w.alloc (.cells #[.string p.id, .int .i64 p.prio, .bool p.crit, .int .i64 p.r0, .int .i64 p.r1, .int .i64 p.r2, .int .i64 p.l0, .int .i64 p.l1, .int .i64 p.l2, .string p.img, .int .i64 p.size] 44)).cell? ⟨w.heap.size, 10, none⟩ = some (.int .i64 p.size) := by first | (simp; done) | (rw [World.cell?_alloc_at _ _ _ _ (by simp)]; rfl) | (rw [World.cell?_alloc_past _ _ _ (by simp <;> omega), World.cell?_alloc_at _ _ _ _ (by simp)]; rfl) | (rw [World.cell?_alloc_past _ _ _ (by simp <;> omega), World.cell?_alloc_past _ _ _ (by simp <;> omega), World.cell?_alloc_at _ _ _ _ (by simp)]; rfl)
  have hb2 := (by repeat (first | exact hbel | refine belAlloc ?_ _ | refine belDrew ?_ | refine belSet ?_ _ _ (by simp)) : Below w.heap.size w (w.alloc (.cells #[.string p.id, .int .i64 p.prio, .bool p.crit, .int .i64 p.r0, .int .i64 p.r1, .int .i64 p.r2, .int .i64 p.l0, .int .i64 p.l1, .int .i64 p.l2, .string p.img, .int .i64 p.size] 44)))
  replace hw := belStep hw hb2
  clear hb2 hbel
  generalize w.alloc (.cells #[.string p.id, .int .i64 p.prio, .bool p.crit, .int .i64 p.r0, .int .i64 p.r1, .int .i64 p.r2, .int .i64 p.l0, .int .i64 p.l1, .int .i64 p.l2, .string p.img, .int .i64 p.size] 44) = W1 at *
  replace a0 := keep a0
  replace a1 := keep a1
  replace a2 := keep a2
  replace a3 := keep a3
  replace a4 := keep a4
  replace a5 := keep a5
  replace a6 := keep a6
  replace a7 := keep a7
  replace a8 := keep a8
  replace a9 := keep a9
  replace a10 := keep a10
  have hbel : Below W1.heap.size W1 W1 := Below.refl _ _
  skip
  have HW := Lib.hid hw
  have hconv : ∀ u, (convert 9 28 (.string p.id)).run Try.prog u = .ok (.slice (some ⟨u.heap.size, 0, none⟩) p.id.size (grownCap u p.id.size 0 5)) (Lib.bytesWorld u 5 p.id) := fun u => Lib.run_convert_string_bytes u 9 28 5 p.id Try.underlying9 Try.underlying28 Try.underlying5
  clear hw
  go_upto_region 2 with (at_builtin; refine wpList_app_ints rfl _ _ 28 rfl W1.heap.size 5 .u8 1 Try.underlying28 info_u8 _ _ rfl ((own_oneI W1 (p.id.size : Int)).later (bel_bytes _ _ _)) _ p.id.size _ (sbl p.id) rfl (ints_mk (row_bytes_at _ _ (by simp) 5 p.id (by omega)) (fun x hx => wf8 x (sbl_bytes p.id x hx))) (by simp only [maxLen, List.length_singleton]; omega) (by simp only [List.length_singleton]; omega) (by rw [Lib.bytesWorld_size]; simp; omega) ?_; intro v2 w2 ho2 hb2 hg2; replace hbel := ((belAlloc hbel _).trans ((bel_bytes _ _ _).mono (by simp))).trans hb2; have HO := Lib.hid ho2; clear ho2 hb2 hg2)
  clear hconv
  refine wp_region_held_drew (S := (fun u' => u'.cell? ⟨w.heap.size, 9, none⟩ = some (.string p.img))) (by kernel_rfl) (by exact a9 _ (by repeat (first | assumption | exact Below.refl _ _ | refine belDrew ?_ | refine belAlloc ?_ _ | refine belStep ?_ (by assumption)))) (fun hHeld => ?_)
  replace HO := Lib.hid (HO.out.later (belDrew (Below.refl _ _)))
  replace hbel := belDrew hbel
  generalize World.drew _ = wd at *
  refine phase 1 #[true, true, true, true, true, true, true, true, true, true, true, false] (fun a u => ∃ (v : Value) (x3 x4 x5 x6 x7 x8 x9 x10 x11 x12 x13 x14 x15 x16 x17 x18 x19 x20 x21 x22 x23 x24 x26 x27 x28 x29 x30 x31 x32 x33 x34 x35 x36 x37 x38 x39 x40 x41 x42 x43 x44 x45 x46 x47 x48 x49 x50 x51 x52 x53 x54 x55 x56 x57 x58 x59 x60 x61 x62 x63 x64 x65 : Value), a = { tmps := #[.agg #[.string p.id, .int .i64 p.prio, .bool p.crit, .int .i64 p.r0, .int .i64 p.r1, .int .i64 p.r2, .int .i64 p.l0, .int .i64 p.l1, .int .i64 p.l2, .string p.img, .int .i64 p.size], .pointer (some ⟨w.heap.size, 0, none⟩), .slice none 0 0, x3, x4, x5, x6, x7, x8, x9, x10, x11, x12, x13, x14, x15, x16, x17, x18, x19, x20, x21, x22, x23, x24, v, x26, x27, x28, x29, x30, x31, x32, x33, x34, x35, x36, x37, x38, x39, x40, x41, x42, x43, x44, x45, x46, x47, x48, x49, x50, x51, x52, x53, x54, x55, x56, x57, x58, x59, x60, x61, x62, x63, x64, x65], defers := [] } ∧ OwnI u W1.heap.size 5 .u8 v (p.head) ∧ Below W1.heap.size W1 u) ?prest_14 (fun hG => ?pfirst_14)
  case pfirst_14 =>
    refine wpAnyH_take (i := 0) (oi := ?oi_15) (v := ?v_15) ?hi_15 (by kernel_rfl) ?hf_15 ?hr_15 ?hQ_15 (Or.inl ⟨?hw_15, ?hy_15⟩) (by assumption) ?rest_15
    case hi_15 => ((simp only [List.getElem?_toArray, List.getElem?_cons_succ, List.getElem?_cons_zero]); rfl)
    case hf_15 => kernel_rfl
    case hr_15 => kernel_rfl
    case hQ_15 => exact fun _ _ _ h => h
    case hw_15 => rfl
    case hy_15 => ((intro w hSw; (try dsimp only at hSw); go_simp); all_goals (with_reducible rfl))
    try simp only [Act.put, List.setIfInBounds_toArray, List.set_cons_zero, List.set_cons_succ]
    refine wpAnyH_take (i := 1) (oi := ?oi_16) (v := ?v_16) ?hi_16 (by kernel_rfl) ?hf_16 ?hr_16 ?hQ_16 (Or.inl ⟨?hw_16, ?hy_16⟩) (by assumption) ?rest_16
    case hi_16 => ((simp only [List.getElem?_toArray, List.getElem?_cons_succ, List.getElem?_cons_zero]); rfl)
    case hf_16 => kernel_rfl
    case hr_16 => kernel_rfl
    case hQ_16 => exact fun _ _ _ h => h
    case hw_16 => rfl
    case hy_16 => ((intro w hSw; (try dsimp only at hSw); go_simp); all_goals (with_reducible rfl))
    try simp only [Act.put, List.setIfInBounds_toArray, List.set_cons_zero, List.set_cons_succ]
    refine wpAnyH_take (i := 2) (oi := ?oi_17) (v := ?v_17) ?hi_17 (by kernel_rfl) ?hf_17 ?hr_17 ?hQ_17 (Or.inl ⟨?hw_17, ?hy_17⟩) (by assumption) ?rest_17
    case hi_17 => ((simp only [List.getElem?_toArray, List.getElem?_cons_succ, List.getElem?_cons_zero]); rfl)
    case hf_17 => kernel_rfl
    case hr_17 => kernel_rfl
    case hQ_17 => exact fun _ _ _ h => h
    case hw_17 => rfl
    case hy_17 => ((intro w hSw; (try dsimp only at hSw); go_simp); all_goals (with_reducible rfl))
    try simp only [Act.put, List.setIfInBounds_toArray, List.set_cons_zero, List.set_cons_succ]
    refine wpAnyH_take (i := 3) (oi := ?oi_18) (v := ?v_18) ?hi_18 (by kernel_rfl) ?hf_18 ?hr_18 ?hQ_18 (Or.inl ⟨?hw_18, ?hy_18⟩) (by assumption) ?rest_18
    case hi_18 => ((simp only [List.getElem?_toArray, List.getElem?_cons_succ, List.getElem?_cons_zero]); rfl)
    case hf_18 => kernel_rfl
    case hr_18 => kernel_rfl
    case hQ_18 => exact fun _ _ _ h => h
    case hw_18 => rfl
    case hy_18 => ((intro w hSw; (try dsimp only at hSw); go_simp); all_goals (with_reducible rfl))
    try simp only [Act.put, List.setIfInBounds_toArray, List.set_cons_zero, List.set_cons_succ]
    refine wpAnyH_take (i := 4) (oi := ?oi_19) (v := ?v_19) ?hi_19 (by kernel_rfl) ?hf_19 ?hr_19 ?hQ_19 (Or.inl ⟨?hw_19, ?hy_19⟩) (by assumption) ?rest_19
    case hi_19 => ((simp only [List.getElem?_toArray, List.getElem?_cons_succ, List.getElem?_cons_zero]); rfl)
    case hf_19 => kernel_rfl
    case hr_19 => kernel_rfl
    case hQ_19 => exact fun _ _ _ h => h
    case hw_19 => rfl
    case hy_19 => ((intro w hSw; (try dsimp only at hSw); go_simp); all_goals (with_reducible rfl))
    try simp only [Act.put, List.setIfInBounds_toArray, List.set_cons_zero, List.set_cons_succ]
    refine wpAnyH_take (i := 7) (oi := ?oi_20) (v := ?v_20) ?hi_20 (by kernel_rfl) ?hf_20 ?hr_20 ?hQ_20 (Or.inl ⟨?hw_20, ?hy_20⟩) (by assumption) ?rest_20
    case hi_20 => ((simp only [List.getElem?_toArray, List.getElem?_cons_succ, List.getElem?_cons_zero]); rfl)
    case hf_20 => kernel_rfl
    case hr_20 => kernel_rfl
    case hQ_20 => exact fun _ _ _ h => h
    case hw_20 => rfl
    case hy_20 => ((intro w hSw; (try dsimp only at hSw); go_simp); all_goals (with_reducible rfl))
    try simp only [Act.put, List.setIfInBounds_toArray, List.set_cons_zero, List.set_cons_succ]
    refine wpAnyH_take (i := 8) (oi := ?oi_21) (v := ?v_21) ?hi_21 (by kernel_rfl) ?hf_21 ?hr_21 ?hQ_21 (Or.inl ⟨?hw_21, ?hy_21⟩) (by assumption) ?rest_21
    case hi_21 => ((simp only [List.getElem?_toArray, List.getElem?_cons_succ, List.getElem?_cons_zero]); rfl)
    case hf_21 => kernel_rfl
    case hr_21 => kernel_rfl
    case hQ_21 => exact fun _ _ _ h => h
    case hw_21 => rfl
    case hy_21 => ((intro w hSw; (try dsimp only at hSw); go_simp); all_goals (with_reducible rfl))
    try simp only [Act.put, List.setIfInBounds_toArray, List.set_cons_zero, List.set_cons_succ]
    refine wpAnyH_ready (rs := [5, 9]) (by kernel_rfl) (by simp) ?_
    refine AllReadyH.cons (o := ?o1_30) ?hi_30 (fun K hK => ?ra_30) (AllReadyH.cons (o := ?o2_30) ?hj_30 (fun K hK => ?rb_30) AllReadyH.nil)
    case hi_30 => ((simp only [List.getElem?_toArray, List.getElem?_cons_succ, List.getElem?_cons_zero]); rfl)
    case hj_30 => ((simp only [List.getElem?_toArray, List.getElem?_cons_succ, List.getElem?_cons_zero]); rfl)
    case ra_30 =>
      go_simp
      refine mk_step (K' := K _) (c := IntKind.u8.wrap (p.img.size : Int)) ?_
      intro wq hrq hbq hgq
      rw [HWI.out] at hrq
      have R5 := Lib.hid hrq
      replace HO := Lib.hid (HO.out.later hbq)
      replace hbel := belStep hbel hbq
      clear hrq hbq hgq
      refine hK.out _ _ (by exact a9 _ (by repeat (first | assumption | exact Below.refl _ _ | refine belDrew ?_ | refine belAlloc ?_ _ | refine belStep ?_ (by assumption)))) (fun hHeld => ?_)
      clear hK K
      try simp only [Act.put, List.setIfInBounds_toArray, List.set_cons_zero, List.set_cons_succ]
      refine wpAnyH_ready (rs := [6, 9]) (by kernel_rfl) (by simp) ?_
      refine AllReadyH.cons (o := ?o1_26) ?hi_26 (fun K hK => ?ra_26) (AllReadyH.cons (o := ?o2_26) ?hj_26 (fun K hK => ?rb_26) AllReadyH.nil)
      case hi_26 => ((simp only [List.getElem?_toArray, List.getElem?_cons_succ, List.getElem?_cons_zero]); rfl)
      case hj_26 => ((simp only [List.getElem?_toArray, List.getElem?_cons_succ, List.getElem?_cons_zero]); rfl)
      case ra_26 =>
        refine op_app rfl _ _ 28 rfl W1.heap.size 5 .u8 1 Try.underlying28 info_u8 _ _ rfl HO.out _ _ _ ([(p.img.size : Int)]) rfl (R5.out) (by simp) (by simp only [List.length_append, sbl_len, List.length_cons, List.length_nil, W8_len, PodV.head_len, maxLen]; omega) (by simp only [List.length_append, sbl_len, List.length_cons, List.length_nil, W8_len, PodV.head_len, maxLen]; omega) (Below.size (show Below W1.heap.size W1 _ from hbel)) ?_
        intro vq wq hoq hbq hgq
        have hbel2 := Below.trans hbel hbq
        clear hbel
        have hbel := hbel2
        replace HO := Lib.hid hoq
        clear hoq hbq hgq hbel2
        refine hK.out _ _ (by exact a9 _ (by repeat (first | assumption | exact Below.refl _ _ | refine belDrew ?_ | refine belAlloc ?_ _ | refine belStep ?_ (by assumption)))) (fun hHeld => ?_)
        clear hK K
        try simp only [Act.put, List.setIfInBounds_toArray, List.set_cons_zero, List.set_cons_succ]
        refine wpAnyH_ready (rs := [9]) (by kernel_rfl) (by simp) ?_
        refine AllReadyH.cons (o := ?o1_22) ?hi_22 (fun K hK => ?rest_22) AllReadyH.nil
        case hi_22 => ((simp only [List.getElem?_toArray, List.getElem?_cons_succ, List.getElem?_cons_zero]); rfl)
        refine op_conv rfl _ _ _ 5 rfl Try.underlying9 Try.underlying28 Try.underlying5 p.img rfl (by omega) ?_
        intro cq wq hrq hbq hgq
        have NE := Lib.hid (own_ne HO.out)
        have GL := Lib.hid hgq
        have R9 := Lib.hid hrq
        replace HO := Lib.hid (HO.out.later hbq)
        replace hbel := belStep hbel hbq
        clear hrq hbq hgq
        refine hK.out _ _ (by exact a9 _ (by repeat (first | assumption | exact Below.refl _ _ | refine belDrew ?_ | refine belAlloc ?_ _ | refine belStep ?_ (by assumption)))) (fun hHeld => ?_)
        clear hK K
        try simp only [Act.put, List.setIfInBounds_toArray, List.set_cons_zero, List.set_cons_succ]
        refine wpAnyH_ready (rs := [10]) (by kernel_rfl) (by simp) ?_
        refine AllReadyH.cons (o := ?o1_23) ?hi_23 (fun K hK => ?rest_23) AllReadyH.nil
        case hi_23 => ((simp only [List.getElem?_toArray, List.getElem?_cons_succ, List.getElem?_cons_zero]); rfl)
        refine op_app rfl _ _ 28 rfl W1.heap.size 5 .u8 1 Try.underlying28 info_u8 _ _ rfl HO.out _ _ _ (sbl p.img) rfl (R9.out) (NZ.out) (by simp only [List.length_append, sbl_len, List.length_cons, List.length_nil, W8_len, PodV.head_len, maxLen]; omega) (by simp only [List.length_append, sbl_len, List.length_cons, List.length_nil, W8_len, PodV.head_len, maxLen]; omega) (Below.size (show Below W1.heap.size W1 _ from hbel)) ?_
        intro vq wq hoq hbq hgq
        have hbel2 := Below.trans hbel hbq
        clear hbel
        have hbel := hbel2
        replace HO := Lib.hid hoq
        clear hoq hbq hgq hbel2
        refine hK.out _ _ (by exact a9 _ (by repeat (first | assumption | exact Below.refl _ _ | refine belDrew ?_ | refine belAlloc ?_ _ | refine belStep ?_ (by assumption)))) (fun hHeld => ?_)
        clear hK K
        try simp only [Act.put, List.setIfInBounds_toArray, List.set_cons_zero, List.set_cons_succ]
        exact relist (by kernel_rfl) (hG.out _ _ hHeld ⟨_, _, _, _, _, _, _, _, _, _, _, _, _, _, _, _, _, _, _, _, _, _, _, _, _, _, _, _, _, _, _, _, _, _, _, _, _, _, _, _, _, _, _, _, _, _, _, _, _, _, _, _, _, _, _, _, _, _, _, _, _, _, _, rfl, (by have hx := HO.out; simp only [List.append_assoc] at hx; exact hx), hbel⟩)
      case rb_26 =>
        refine op_conv rfl _ _ _ 5 rfl Try.underlying9 Try.underlying28 Try.underlying5 p.img rfl (by omega) ?_
        intro cq wq hrq hbq hgq
        have NE := Lib.hid (own_ne HO.out)
        have GL := Lib.hid hgq
        have R9 := Lib.hid hrq
        replace R5 := Lib.hid (R5.out.later hbq)
        replace HO := Lib.hid (HO.out.later hbq)
        replace hbel := belStep hbel hbq
        clear hrq hbq hgq
        refine hK.out _ _ (by exact a9 _ (by repeat (first | assumption | exact Below.refl _ _ | refine belDrew ?_ | refine belAlloc ?_ _ | refine belStep ?_ (by assumption)))) (fun hHeld => ?_)
        clear hK K
        try simp only [Act.put, List.setIfInBounds_toArray, List.set_cons_zero, List.set_cons_succ]
        refine wpAnyH_ready (rs := [6]) (by kernel_rfl) (by simp) ?_
        refine AllReadyH.cons (o := ?o1_24) ?hi_24 (fun K hK => ?rest_24) AllReadyH.nil
        case hi_24 => ((simp only [List.getElem?_toArray, List.getElem?_cons_succ, List.getElem?_cons_zero]); rfl)
        refine op_app rfl _ _ 28 rfl W1.heap.size 5 .u8 1 Try.underlying28 info_u8 _ _ rfl HO.out _ _ _ ([(p.img.size : Int)]) rfl (R5.out) (by simp) (by simp only [List.length_append, sbl_len, List.length_cons, List.length_nil, W8_len, PodV.head_len, maxLen]; omega) (by simp only [List.length_append, sbl_len, List.length_cons, List.length_nil, W8_len, PodV.head_len, maxLen]; omega) (Below.size (show Below W1.heap.size W1 _ from hbel)) ?_
        intro vq wq hoq hbq hgq
        replace R9 := Lib.hid (row_grown R9.out hgq NE.out GL.out)
        have hbel2 := Below.trans hbel hbq
        clear hbel
        have hbel := hbel2
        replace HO := Lib.hid hoq
        clear hoq hbq hgq hbel2
        refine hK.out _ _ (by exact a9 _ (by repeat (first | assumption | exact Below.refl _ _ | refine belDrew ?_ | refine belAlloc ?_ _ | refine belStep ?_ (by assumption)))) (fun hHeld => ?_)
        clear hK K
        try simp only [Act.put, List.setIfInBounds_toArray, List.set_cons_zero, List.set_cons_succ]
        refine wpAnyH_ready (rs := [10]) (by kernel_rfl) (by simp) ?_
        refine AllReadyH.cons (o := ?o1_25) ?hi_25 (fun K hK => ?rest_25) AllReadyH.nil
        case hi_25 => ((simp only [List.getElem?_toArray, List.getElem?_cons_succ, List.getElem?_cons_zero]); rfl)
        refine op_app rfl _ _ 28 rfl W1.heap.size 5 .u8 1 Try.underlying28 info_u8 _ _ rfl HO.out _ _ _ (sbl p.img) rfl (R9.out) (NZ.out) (by simp only [List.length_append, sbl_len, List.length_cons, List.length_nil, W8_len, PodV.head_len, maxLen]; omega) (by simp only [List.length_append, sbl_len, List.length_cons, List.length_nil, W8_len, PodV.head_len, maxLen]; omega) (Below.size (show Below W1.heap.size W1 _ from hbel)) ?_
        intro vq wq hoq hbq hgq
        have hbel2 := Below.trans hbel hbq
        clear hbel
        have hbel := hbel2
        replace HO := Lib.hid hoq
        clear hoq hbq hgq hbel2
        refine hK.out _ _ (by exact a9 _ (by repeat (first | assumption | exact Below.refl _ _ | refine belDrew ?_ | refine belAlloc ?_ _ | refine belStep ?_ (by assumption)))) (fun hHeld => ?_)
        clear hK K
        try simp only [Act.put, List.setIfInBounds_toArray, List.set_cons_zero, List.set_cons_succ]
        exact relist (by kernel_rfl) (hG.out _ _ hHeld ⟨_, _, _, _, _, _, _, _, _, _, _, _, _, _, _, _, _, _, _, _, _, _, _, _, _, _, _, _, _, _, _, _, _, _, _, _, _, _, _, _, _, _, _, _, _, _, _, _, _, _, _, _, _, _, _, _, _, _, _, _, _, _, _, rfl, (by have hx := HO.out; simp only [List.append_assoc] at hx; exact hx), hbel⟩)
    case rb_30 =>
      refine op_conv rfl _ _ _ 5 rfl Try.underlying9 Try.underlying28 Try.underlying5 p.img rfl (by omega) ?_
      intro cq wq hrq hbq hgq
      have NE := Lib.hid (own_ne HO.out)
      have GL := Lib.hid hgq
      have R9 := Lib.hid hrq
      replace HO := Lib.hid (HO.out.later hbq)
      replace hbel := belStep hbel hbq
      clear hrq hbq hgq
      refine hK.out _ _ (by exact a9 _ (by repeat (first | assumption | exact Below.refl _ _ | refine belDrew ?_ | refine belAlloc ?_ _ | refine belStep ?_ (by assumption)))) (fun hHeld => ?_)
      clear hK K
      try simp only [Act.put, List.setIfInBounds_toArray, List.set_cons_zero, List.set_cons_succ]
      refine wpAnyH_ready (rs := [5]) (by kernel_rfl) (by simp) ?_
      refine AllReadyH.cons (o := ?o1_27) ?hi_27 (fun K hK => ?rest_27) AllReadyH.nil
      case hi_27 => ((simp only [List.getElem?_toArray, List.getElem?_cons_succ, List.getElem?_cons_zero]); rfl)
      go_simp
      refine mk_step (K' := K _) (c := IntKind.u8.wrap (p.img.size : Int)) ?_
      intro wq hrq hbq hgq
      rw [HWI.out] at hrq
      have R5 := Lib.hid hrq
      replace GL := Lib.hid (Nat.lt_of_lt_of_le GL.out hbq.size)
      replace R9 := Lib.hid (R9.out.later hbq)
      replace HO := Lib.hid (HO.out.later hbq)
      replace hbel := belStep hbel hbq
      clear hrq hbq hgq
      refine hK.out _ _ (by exact a9 _ (by repeat (first | assumption | exact Below.refl _ _ | refine belDrew ?_ | refine belAlloc ?_ _ | refine belStep ?_ (by assumption)))) (fun hHeld => ?_)
      clear hK K
      try simp only [Act.put, List.setIfInBounds_toArray, List.set_cons_zero, List.set_cons_succ]
      refine wpAnyH_ready (rs := [6]) (by kernel_rfl) (by simp) ?_
      refine AllReadyH.cons (o := ?o1_28) ?hi_28 (fun K hK => ?rest_28) AllReadyH.nil
      case hi_28 => ((simp only [List.getElem?_toArray, List.getElem?_cons_succ, List.getElem?_cons_zero]); rfl)
      refine op_app rfl _ _ 28 rfl W1.heap.size 5 .u8 1 Try.underlying28 info_u8 _ _ rfl HO.out _ _ _ ([(p.img.size : Int)]) rfl (R5.out) (by simp) (by simp only [List.length_append, sbl_len, List.length_cons, List.length_nil, W8_len, PodV.head_len, maxLen]; omega) (by simp only [List.length_append, sbl_len, List.length_cons, List.length_nil, W8_len, PodV.head_len, maxLen]; omega) (Below.size (show Below W1.heap.size W1 _ from hbel)) ?_
      intro vq wq hoq hbq hgq
      replace R9 := Lib.hid (row_grown R9.out hgq NE.out GL.out)
      have hbel2 := Below.trans hbel hbq
      clear hbel
      have hbel := hbel2
      replace HO := Lib.hid hoq
      clear hoq hbq hgq hbel2
      refine hK.out _ _ (by exact a9 _ (by repeat (first | assumption | exact Below.refl _ _ | refine belDrew ?_ | refine belAlloc ?_ _ | refine belStep ?_ (by assumption)))) (fun hHeld => ?_)
      clear hK K
      try simp only [Act.put, List.setIfInBounds_toArray, List.set_cons_zero, List.set_cons_succ]
      refine wpAnyH_ready (rs := [10]) (by kernel_rfl) (by simp) ?_
      refine AllReadyH.cons (o := ?o1_29) ?hi_29 (fun K hK => ?rest_29) AllReadyH.nil
      case hi_29 => ((simp only [List.getElem?_toArray, List.getElem?_cons_succ, List.getElem?_cons_zero]); rfl)
      refine op_app rfl _ _ 28 rfl W1.heap.size 5 .u8 1 Try.underlying28 info_u8 _ _ rfl HO.out _ _ _ (sbl p.img) rfl (R9.out) (NZ.out) (by simp only [List.length_append, sbl_len, List.length_cons, List.length_nil, W8_len, PodV.head_len, maxLen]; omega) (by simp only [List.length_append, sbl_len, List.length_cons, List.length_nil, W8_len, PodV.head_len, maxLen]; omega) (Below.size (show Below W1.heap.size W1 _ from hbel)) ?_
      intro vq wq hoq hbq hgq
      have hbel2 := Below.trans hbel hbq
      clear hbel
      have hbel := hbel2
      replace HO := Lib.hid hoq
      clear hoq hbq hgq hbel2
      refine hK.out _ _ (by exact a9 _ (by repeat (first | assumption | exact Below.refl _ _ | refine belDrew ?_ | refine belAlloc ?_ _ | refine belStep ?_ (by assumption)))) (fun hHeld => ?_)
      clear hK K
      try simp only [Act.put, List.setIfInBounds_toArray, List.set_cons_zero, List.set_cons_succ]
      exact relist (by kernel_rfl) (hG.out _ _ hHeld ⟨_, _, _, _, _, _, _, _, _, _, _, _, _, _, _, _, _, _, _, _, _, _, _, _, _, _, _, _, _, _, _, _, _, _, _, _, _, _, _, _, _, _, _, _, _, _, _, _, _, _, _, _, _, _, _, _, _, _, _, _, _, _, _, rfl, (by have hx := HO.out; simp only [List.append_assoc] at hx; exact hx), hbel⟩)
  case prest_14 =>
    clear HO
    rintro a u hHeld ⟨v, x3, x4, x5, x6, x7, x8, x9, x10, x11, x12, x13, x14, x15, x16, x17, x18, x19, x20, x21, x22, x23, x24, x26, x27, x28, x29, x30, x31, x32, x33, x34, x35, x36, x37, x38, x39, x40, x41, x42, x43, x44, x45, x46, x47, x48, x49, x50, x51, x52, x53, x54, x55, x56, x57, x58, x59, x60, x61, x62, x63, x64, x65, rfl, hoq, hbel⟩
    have HO := Lib.hid hoq
    clear hoq
    refine wpAnyH_ready (rs := [11]) (by kernel_rfl) (by simp) ?_
    refine AllReadyH.cons (o := ?o1_2) ?hi_2 (fun K hK => ?rest_2) AllReadyH.nil
    case hi_2 => ((simp only [List.getElem?_toArray, List.getElem?_cons_succ, List.getElem?_cons_zero]); rfl)
    go_simp
    refine hK.out _ _ (by exact a9 _ (by repeat (first | assumption | exact Below.refl _ _ | refine belDrew ?_ | refine belAlloc ?_ _ | refine belStep ?_ (by assumption)))) (fun hHeld => ?_)
    clear hK K
    try simp only [Act.put, List.setIfInBounds_toArray, List.set_cons_zero, List.set_cons_succ]
    refine wpAnyH_done (by kernel_rfl) ?_ _
    clear hHeld
    go_upto_region 3 with fail
    refine wp_region_held_drew (S := (fun u' => u'.cell? ⟨w.heap.size, 1, none⟩ = some (.int .i64 p.prio) ∧ u'.cell? ⟨w.heap.size, 10, none⟩ = some (.int .i64 p.size))) (by kernel_rfl) (by exact ⟨a1 _ (by repeat (first | assumption | exact Below.refl _ _ | refine belDrew ?_ | refine belAlloc ?_ _ | refine belStep ?_ (by assumption))), a10 _ (by repeat (first | assumption | exact Below.refl _ _ | refine belDrew ?_ | refine belAlloc ?_ _ | refine belStep ?_ (by assumption)))⟩) (fun hHeld => ?_)
    replace HO := Lib.hid (HO.out.later (belDrew (Below.refl _ _)))
    replace hbel := belDrew hbel
    generalize World.drew _ = wd at *
    refine phase 1 #[true, true, true, true, true, true, true, true, true, true, false] (fun a u => ∃ (v : Value) (x3 x4 x5 x6 x7 x8 x9 x10 x11 x12 x13 x14 x15 x16 x17 x18 x19 x20 x21 x22 x23 x24 x25 x26 x27 x28 x29 x30 x31 x32 x33 x34 x36 x37 x38 x39 x40 x41 x42 x43 x44 x45 x46 x47 x48 x49 x50 x51 x52 x53 x54 x55 x56 x57 x58 x59 x60 x61 x62 x63 x64 x65 : Value), a = { tmps := #[.agg #[.string p.id, .int .i64 p.prio, .bool p.crit, .int .i64 p.r0, .int .i64 p.r1, .int .i64 p.r2, .int .i64 p.l0, .int .i64 p.l1, .int .i64 p.l2, .string p.img, .int .i64 p.size], .pointer (some ⟨w.heap.size, 0, none⟩), .slice none 0 0, x3, x4, x5, x6, x7, x8, x9, x10, x11, x12, x13, x14, x15, x16, x17, x18, x19, x20, x21, x22, x23, x24, x25, x26, x27, x28, x29, x30, x31, x32, x33, x34, v, x36, x37, x38, x39, x40, x41, x42, x43, x44, x45, x46, x47, x48, x49, x50, x51, x52, x53, x54, x55, x56, x57, x58, x59, x60, x61, x62, x63, x64, x65], defers := [] } ∧ OwnI u W1.heap.size 5 .u8 v (p.head ++ W8 (p.prio + 1073741824).toNat ++ W8 p.size.toNat) ∧ Below W1.heap.size W1 u) ?prest_3 (fun hG => ?pfirst_3)
    case pfirst_3 =>
      refine wpAnyH_take (i := 0) (oi := ?oi_4) (v := ?v_4) ?hi_4 (by kernel_rfl) ?hf_4 ?hr_4 ?hQ_4 (Or.inl ⟨?hw_4, ?hy_4⟩) (by assumption) ?rest_4
      case hi_4 => ((simp only [List.getElem?_toArray, List.getElem?_cons_succ, List.getElem?_cons_zero]); rfl)
      case hf_4 => kernel_rfl
      case hr_4 => kernel_rfl
      case hQ_4 => exact fun _ _ _ h => h
      case hw_4 => rfl
      case hy_4 => ((intro w hSw; (try dsimp only at hSw); go_simp); all_goals (with_reducible rfl))
      try simp only [Act.put, List.setIfInBounds_toArray, List.set_cons_zero, List.set_cons_succ]
      refine wpAnyH_take (i := 1) (oi := ?oi_5) (v := ?v_5) ?hi_5 (by kernel_rfl) ?hf_5 ?hr_5 ?hQ_5 (Or.inl ⟨?hw_5, ?hy_5⟩) (by assumption) ?rest_5
      case hi_5 => ((simp only [List.getElem?_toArray, List.getElem?_cons_succ, List.getElem?_cons_zero]); rfl)
      case hf_5 => kernel_rfl
      case hr_5 => kernel_rfl
      case hQ_5 => exact fun _ _ _ h => h
      case hw_5 => rfl
      case hy_5 => ((intro w hSw; (try dsimp only at hSw); go_simp); all_goals (with_reducible rfl))
      try simp only [Act.put, List.setIfInBounds_toArray, List.set_cons_zero, List.set_cons_succ]
      refine wpAnyH_take (i := 2) (oi := ?oi_6) (v := ?v_6) ?hi_6 (by kernel_rfl) ?hf_6 ?hr_6 ?hQ_6 (Or.inl ⟨?hw_6, ?hy_6⟩) (by assumption) ?rest_6
      case hi_6 => ((simp only [List.getElem?_toArray, List.getElem?_cons_succ, List.getElem?_cons_zero]); rfl)
      case hf_6 => kernel_rfl
      case hr_6 => kernel_rfl
      case hQ_6 => exact fun _ _ _ h => h
      case hw_6 => rfl
      case hy_6 => ((intro w hSw; (try dsimp only at hSw); go_simp); all_goals (with_reducible rfl))
      try simp only [Act.put, List.setIfInBounds_toArray, List.set_cons_zero, List.set_cons_succ]
      refine wpAnyH_take (i := 3) (oi := ?oi_7) (v := ?v_7) ?hi_7 (by kernel_rfl) ?hf_7 ?hr_7 ?hQ_7 (Or.inl ⟨?hw_7, ?hy_7⟩) (by assumption) ?rest_7
      case hi_7 => ((simp only [List.getElem?_toArray, List.getElem?_cons_succ, List.getElem?_cons_zero]); rfl)
      case hf_7 => kernel_rfl
      case hr_7 => kernel_rfl
      case hQ_7 => exact fun _ _ _ h => h
      case hw_7 => rfl
      case hy_7 => ((intro w hSw; (try dsimp only at hSw); go_simp); all_goals (with_reducible rfl))
      try simp only [Act.put, List.setIfInBounds_toArray, List.set_cons_zero, List.set_cons_succ]
      refine wpAnyH_take (i := 6) (oi := ?oi_8) (v := ?v_8) ?hi_8 (by kernel_rfl) ?hf_8 ?hr_8 ?hQ_8 (Or.inl ⟨?hw_8, ?hy_8⟩) (by assumption) ?rest_8
      case hi_8 => ((simp only [List.getElem?_toArray, List.getElem?_cons_succ, List.getElem?_cons_zero]); rfl)
      case hf_8 => kernel_rfl
      case hr_8 => kernel_rfl
      case hQ_8 => exact fun _ _ _ h => h
      case hw_8 => rfl
      case hy_8 => ((intro w hSw; (try dsimp only at hSw); go_simp); all_goals (with_reducible rfl))
      try simp only [Act.put, List.setIfInBounds_toArray, List.set_cons_zero, List.set_cons_succ]
      refine wpAnyH_take (i := 7) (oi := ?oi_9) (v := ?v_9) ?hi_9 (by kernel_rfl) ?hf_9 ?hr_9 ?hQ_9 (Or.inl ⟨?hw_9, ?hy_9⟩) (by assumption) ?rest_9
      case hi_9 => ((simp only [List.getElem?_toArray, List.getElem?_cons_succ, List.getElem?_cons_zero]); rfl)
      case hf_9 => kernel_rfl
      case hr_9 => kernel_rfl
      case hQ_9 => exact fun _ _ _ h => h
      case hw_9 => rfl
      case hy_9 => ((intro w hSw; (try dsimp only at hSw); go_simp); all_goals (with_reducible rfl))
      try simp only [Act.put, List.setIfInBounds_toArray, List.set_cons_zero, List.set_cons_succ]
      refine wpAnyH_ready (rs := [4]) (by kernel_rfl) (by simp) ?_
      refine AllReadyH.cons (o := ?o1_10) ?hi_10 (fun K hK => ?rest_10) AllReadyH.nil
      case hi_10 => ((simp only [List.getElem?_toArray, List.getElem?_cons_succ, List.getElem?_cons_zero]); rfl)
      go_simp
      (go_at_call 52; (with_reducible refine (pref_word_w (p.prio + 1073741824) _ HB0.out.1 HB0.out.2).mono ?_); rintro e wq ⟨vq, rfl, hoq, hbq⟩; obtain ⟨aq, cq, eq, hiq⟩ := ints_of_own hoq (W8_wf _); rw [W8_len] at eq hiq; subst eq; have R4 := Lib.hid hiq.1; replace HO := Lib.hid (HO.out.later hbq); replace hbel := belStep hbel hbq; clear hoq hbq hiq)
      try go_simp
      refine hK.out _ _ (by exact ⟨a1 _ (by repeat (first | assumption | exact Below.refl _ _ | refine belDrew ?_ | refine belAlloc ?_ _ | refine belStep ?_ (by assumption))), a10 _ (by repeat (first | assumption | exact Below.refl _ _ | refine belDrew ?_ | refine belAlloc ?_ _ | refine belStep ?_ (by assumption)))⟩) (fun hHeld => ?_)
      clear hK K
      try simp only [Act.put, List.setIfInBounds_toArray, List.set_cons_zero, List.set_cons_succ]
      refine wpAnyH_ready (rs := [5]) (by kernel_rfl) (by simp) ?_
      refine AllReadyH.cons (o := ?o1_11) ?hi_11 (fun K hK => ?rest_11) AllReadyH.nil
      case hi_11 => ((simp only [List.getElem?_toArray, List.getElem?_cons_succ, List.getElem?_cons_zero]); rfl)
      refine op_app rfl _ _ 28 rfl W1.heap.size 5 .u8 1 Try.underlying28 info_u8 _ _ rfl HO.out _ _ _ (W8 (p.prio + 1073741824).toNat) rfl (R4.out) (W8_ne _) (by simp only [List.length_append, sbl_len, List.length_cons, List.length_nil, W8_len, PodV.head_len, maxLen]; omega) (by simp only [List.length_append, sbl_len, List.length_cons, List.length_nil, W8_len, PodV.head_len, maxLen]; omega) (Below.size (show Below W1.heap.size W1 _ from hbel)) ?_
      intro vq wq hoq hbq hgq
      have hbel2 := Below.trans hbel hbq
      clear hbel
      have hbel := hbel2
      replace HO := Lib.hid hoq
      clear hoq hbq hgq hbel2
      refine hK.out _ _ (by exact ⟨a1 _ (by repeat (first | assumption | exact Below.refl _ _ | refine belDrew ?_ | refine belAlloc ?_ _ | refine belStep ?_ (by assumption))), a10 _ (by repeat (first | assumption | exact Below.refl _ _ | refine belDrew ?_ | refine belAlloc ?_ _ | refine belStep ?_ (by assumption)))⟩) (fun hHeld => ?_)
      clear hK K
      try simp only [Act.put, List.setIfInBounds_toArray, List.set_cons_zero, List.set_cons_succ]
      refine wpAnyH_ready (rs := [8]) (by kernel_rfl) (by simp) ?_
      refine AllReadyH.cons (o := ?o1_12) ?hi_12 (fun K hK => ?rest_12) AllReadyH.nil
      case hi_12 => ((simp only [List.getElem?_toArray, List.getElem?_cons_succ, List.getElem?_cons_zero]); rfl)
      go_simp
      (go_at_call 52; (with_reducible refine (pref_word' p.size _ HB1.out.1 HB1.out.2).mono ?_); rintro e wq ⟨vq, rfl, hoq, hbq⟩; obtain ⟨aq, cq, eq, hiq⟩ := ints_of_own hoq (W8_wf _); rw [W8_len] at eq hiq; subst eq; have R8 := Lib.hid hiq.1; replace HO := Lib.hid (HO.out.later hbq); replace hbel := belStep hbel hbq; clear hoq hbq hiq)
      try go_simp
      refine hK.out _ _ (by exact ⟨a1 _ (by repeat (first | assumption | exact Below.refl _ _ | refine belDrew ?_ | refine belAlloc ?_ _ | refine belStep ?_ (by assumption))), a10 _ (by repeat (first | assumption | exact Below.refl _ _ | refine belDrew ?_ | refine belAlloc ?_ _ | refine belStep ?_ (by assumption)))⟩) (fun hHeld => ?_)
      clear hK K
      try simp only [Act.put, List.setIfInBounds_toArray, List.set_cons_zero, List.set_cons_succ]
      refine wpAnyH_ready (rs := [9]) (by kernel_rfl) (by simp) ?_
      refine AllReadyH.cons (o := ?o1_13) ?hi_13 (fun K hK => ?rest_13) AllReadyH.nil
      case hi_13 => ((simp only [List.getElem?_toArray, List.getElem?_cons_succ, List.getElem?_cons_zero]); rfl)
      refine op_app rfl _ _ 28 rfl W1.heap.size 5 .u8 1 Try.underlying28 info_u8 _ _ rfl HO.out _ _ _ (W8 p.size.toNat) rfl (R8.out) (W8_ne _) (by simp only [List.length_append, sbl_len, List.length_cons, List.length_nil, W8_len, PodV.head_len, maxLen]; omega) (by simp only [List.length_append, sbl_len, List.length_cons, List.length_nil, W8_len, PodV.head_len, maxLen]; omega) (Below.size (show Below W1.heap.size W1 _ from hbel)) ?_
      intro vq wq hoq hbq hgq
      have hbel2 := Below.trans hbel hbq
      clear hbel
      have hbel := hbel2
      replace HO := Lib.hid hoq
      clear hoq hbq hgq hbel2
      refine hK.out _ _ (by exact ⟨a1 _ (by repeat (first | assumption | exact Below.refl _ _ | refine belDrew ?_ | refine belAlloc ?_ _ | refine belStep ?_ (by assumption))), a10 _ (by repeat (first | assumption | exact Below.refl _ _ | refine belDrew ?_ | refine belAlloc ?_ _ | refine belStep ?_ (by assumption)))⟩) (fun hHeld => ?_)
      clear hK K
      try simp only [Act.put, List.setIfInBounds_toArray, List.set_cons_zero, List.set_cons_succ]
      exact relist (by kernel_rfl) (hG.out _ _ hHeld ⟨_, _, _, _, _, _, _, _, _, _, _, _, _, _, _, _, _, _, _, _, _, _, _, _, _, _, _, _, _, _, _, _, _, _, _, _, _, _, _, _, _, _, _, _, _, _, _, _, _, _, _, _, _, _, _, _, _, _, _, _, _, _, _, rfl, (by have hx := HO.out; skip; exact hx), hbel⟩)
    case prest_3 =>
      clear HO
      rintro a u hHeld ⟨v, x3, x4, x5, x6, x7, x8, x9, x10, x11, x12, x13, x14, x15, x16, x17, x18, x19, x20, x21, x22, x23, x24, x25, x26, x27, x28, x29, x30, x31, x32, x33, x34, x36, x37, x38, x39, x40, x41, x42, x43, x44, x45, x46, x47, x48, x49, x50, x51, x52, x53, x54, x55, x56, x57, x58, x59, x60, x61, x62, x63, x64, x65, rfl, hoq, hbel⟩
      have HO := Lib.hid hoq
      clear hoq
      refine wpAnyH_ready (rs := [10]) (by kernel_rfl) (by simp) ?_
      refine AllReadyH.cons (o := ?o1_1) ?hi_1 (fun K hK => ?rest_1) AllReadyH.nil
      case hi_1 => ((simp only [List.getElem?_toArray, List.getElem?_cons_succ, List.getElem?_cons_zero]); rfl)
      go_simp
      refine hK.out _ _ (by exact ⟨a1 _ (by repeat (first | assumption | exact Below.refl _ _ | refine belDrew ?_ | refine belAlloc ?_ _ | refine belStep ?_ (by assumption))), a10 _ (by repeat (first | assumption | exact Below.refl _ _ | refine belDrew ?_ | refine belAlloc ?_ _ | refine belStep ?_ (by assumption)))⟩) (fun hHeld => ?_)
      clear hK K
      try simp only [Act.put, List.setIfInBounds_toArray, List.set_cons_zero, List.set_cons_succ]
      refine wpAnyH_done (by kernel_rfl) ?_ _
      clear hHeld
      go_wp2
      go_loopw [3, 4] (fun v i wr => ((i = .int .i64 0 ∧ OwnI wr W1.heap.size 5 .u8 v (p.head ++ W8 (p.prio + 1073741824).toNat ++ W8 p.size.toNat)) ∨ (i = .int .i64 1 ∧ OwnI wr W1.heap.size 5 .u8 v (p.head ++ W8 (p.prio + 1073741824).toNat ++ W8 p.size.toNat ++ W8 p.r0.toNat)) ∨ (i = .int .i64 2 ∧ OwnI wr W1.heap.size 5 .u8 v (p.head ++ W8 (p.prio + 1073741824).toNat ++ W8 p.size.toNat ++ W8 p.r0.toNat ++ W8 p.r1.toNat)) ∨ (i = .int .i64 3 ∧ OwnI wr W1.heap.size 5 .u8 v (p.head ++ W8 (p.prio + 1073741824).toNat ++ W8 p.size.toNat ++ W8 p.r0.toNat ++ W8 p.r1.toNat ++ W8 p.r2.toNat))) ∧ Below W1.heap.size W1 wr) (fun _ i _ => 3 - (intOf i).toNat)
      case atStart => exact ⟨.inl ⟨rfl, HO.out⟩, hbel⟩
      case round =>
        clear HO hbel
        obtain ⟨h3, hbel⟩ := hrel
        rcases h3 with ⟨rfl, ho⟩ | ⟨rfl, ho⟩ | ⟨rfl, ho⟩ | ⟨rfl, ho⟩
        · have HO := Lib.hid ho
          have x1 := a3 _ hbel
          clear ho
          go_wp2_with (first | (go_at_call 52; (with_reducible refine (pref_word' p.r0 _ HB2.out.1 HB2.out.2).mono ?_); rintro e wq ⟨vq, rfl, hoq, hbq⟩; obtain ⟨aq, cq, eq, hiq⟩ := ints_of_own hoq (W8_wf _); rw [W8_len] at eq hiq; subst eq; have R := Lib.hid hiq; replace HO := Lib.hid (HO.out.later hbq); replace hbel := belStep hbel hbq; clear hoq hbq hiq) | (at_builtin; refine wpList_app_ints rfl _ _ 28 rfl W1.heap.size 5 .u8 1 Try.underlying28 info_u8 _ _ rfl HO.out _ _ _ (W8 p.r0.toNat) rfl R.out (by simp only [List.length_append, sbl_len, List.length_cons, List.length_nil, W8_len, PodV.head_len, maxLen]; omega) (by simp only [List.length_append, sbl_len, List.length_cons, List.length_nil, W8_len, PodV.head_len, maxLen]; omega) (Below.size (show Below W1.heap.size W1 _ from hbel)) ?_; intro v4 w4 ho4 hb4 hg4; have hbel2 := Below.trans hbel hb4; clear hbel; have hbel := hbel2; have HO2 := Lib.hid ho4; clear ho4 hb4 hg4 hbel2))
          go_roundw
          case rel => exact ⟨.inr (.inl ⟨rfl, HO2.out⟩), hbel⟩
          case measure => simp [intOf]
        · have HO := Lib.hid ho
          have x1 := a4 _ hbel
          clear ho
          go_wp2_with (first | (go_at_call 52; (with_reducible refine (pref_word' p.r1 _ HB3.out.1 HB3.out.2).mono ?_); rintro e wq ⟨vq, rfl, hoq, hbq⟩; obtain ⟨aq, cq, eq, hiq⟩ := ints_of_own hoq (W8_wf _); rw [W8_len] at eq hiq; subst eq; have R := Lib.hid hiq; replace HO := Lib.hid (HO.out.later hbq); replace hbel := belStep hbel hbq; clear hoq hbq hiq) | (at_builtin; refine wpList_app_ints rfl _ _ 28 rfl W1.heap.size 5 .u8 1 Try.underlying28 info_u8 _ _ rfl HO.out _ _ _ (W8 p.r1.toNat) rfl R.out (by simp only [List.length_append, sbl_len, List.length_cons, List.length_nil, W8_len, PodV.head_len, maxLen]; omega) (by simp only [List.length_append, sbl_len, List.length_cons, List.length_nil, W8_len, PodV.head_len, maxLen]; omega) (Below.size (show Below W1.heap.size W1 _ from hbel)) ?_; intro v4 w4 ho4 hb4 hg4; have hbel2 := Below.trans hbel hb4; clear hbel; have hbel := hbel2; have HO2 := Lib.hid ho4; clear ho4 hb4 hg4 hbel2))
          go_roundw
          case rel => exact ⟨.inr (.inr (.inl ⟨rfl, HO2.out⟩)), hbel⟩
          case measure => simp [intOf]
        · have HO := Lib.hid ho
          have x1 := a5 _ hbel
          clear ho
          go_wp2_with (first | (go_at_call 52; (with_reducible refine (pref_word' p.r2 _ HB4.out.1 HB4.out.2).mono ?_); rintro e wq ⟨vq, rfl, hoq, hbq⟩; obtain ⟨aq, cq, eq, hiq⟩ := ints_of_own hoq (W8_wf _); rw [W8_len] at eq hiq; subst eq; have R := Lib.hid hiq; replace HO := Lib.hid (HO.out.later hbq); replace hbel := belStep hbel hbq; clear hoq hbq hiq) | (at_builtin; refine wpList_app_ints rfl _ _ 28 rfl W1.heap.size 5 .u8 1 Try.underlying28 info_u8 _ _ rfl HO.out _ _ _ (W8 p.r2.toNat) rfl R.out (by simp only [List.length_append, sbl_len, List.length_cons, List.length_nil, W8_len, PodV.head_len, maxLen]; omega) (by simp only [List.length_append, sbl_len, List.length_cons, List.length_nil, W8_len, PodV.head_len, maxLen]; omega) (Below.size (show Below W1.heap.size W1 _ from hbel)) ?_; intro v4 w4 ho4 hb4 hg4; have hbel2 := Below.trans hbel hb4; clear hbel; have hbel := hbel2; have HO2 := Lib.hid ho4; clear ho4 hb4 hg4 hbel2))
          go_roundw
          case rel => exact ⟨.inr (.inr (.inr (⟨rfl, HO2.out⟩))), hbel⟩
          case measure => simp [intOf]
        · have HO := Lib.hid ho
          clear ho
          go_wp2
          go_loopw [3, 5] (fun v i wr => ((i = .int .i64 0 ∧ OwnI wr W1.heap.size 5 .u8 v (p.head ++ W8 (p.prio + 1073741824).toNat ++ W8 p.size.toNat ++ W8 p.r0.toNat ++ W8 p.r1.toNat ++ W8 p.r2.toNat)) ∨ (i = .int .i64 1 ∧ OwnI wr W1.heap.size 5 .u8 v (p.head ++ W8 (p.prio + 1073741824).toNat ++ W8 p.size.toNat ++ W8 p.r0.toNat ++ W8 p.r1.toNat ++ W8 p.r2.toNat ++ W8 p.l0.toNat)) ∨ (i = .int .i64 2 ∧ OwnI wr W1.heap.size 5 .u8 v (p.head ++ W8 (p.prio + 1073741824).toNat ++ W8 p.size.toNat ++ W8 p.r0.toNat ++ W8 p.r1.toNat ++ W8 p.r2.toNat ++ W8 p.l0.toNat ++ W8 p.l1.toNat)) ∨ (i = .int .i64 3 ∧ OwnI wr W1.heap.size 5 .u8 v (p.head ++ W8 (p.prio + 1073741824).toNat ++ W8 p.size.toNat ++ W8 p.r0.toNat ++ W8 p.r1.toNat ++ W8 p.r2.toNat ++ W8 p.l0.toNat ++ W8 p.l1.toNat ++ W8 p.l2.toNat))) ∧ Below W1.heap.size W1 wr) (fun _ i _ => 3 - (intOf i).toNat)
          case atStart => exact ⟨.inl ⟨rfl, HO.out⟩, hbel⟩
          case round =>
            clear HO hbel
            obtain ⟨h3, hbel⟩ := hrel
            rcases h3 with ⟨rfl, ho⟩ | ⟨rfl, ho⟩ | ⟨rfl, ho⟩ | ⟨rfl, ho⟩
            · have HO := Lib.hid ho
              have x1 := a6 _ hbel
              clear ho
              go_wp2_with (first | (go_at_call 52; (with_reducible refine (pref_word' p.l0 _ HB5.out.1 HB5.out.2).mono ?_); rintro e wq ⟨vq, rfl, hoq, hbq⟩; obtain ⟨aq, cq, eq, hiq⟩ := ints_of_own hoq (W8_wf _); rw [W8_len] at eq hiq; subst eq; have R := Lib.hid hiq; replace HO := Lib.hid (HO.out.later hbq); replace hbel := belStep hbel hbq; clear hoq hbq hiq) | (at_builtin; refine wpList_app_ints rfl _ _ 28 rfl W1.heap.size 5 .u8 1 Try.underlying28 info_u8 _ _ rfl HO.out _ _ _ (W8 p.l0.toNat) rfl R.out (by simp only [List.length_append, sbl_len, List.length_cons, List.length_nil, W8_len, PodV.head_len, maxLen]; omega) (by simp only [List.length_append, sbl_len, List.length_cons, List.length_nil, W8_len, PodV.head_len, maxLen]; omega) (Below.size (show Below W1.heap.size W1 _ from hbel)) ?_; intro v4 w4 ho4 hb4 hg4; have hbel2 := Below.trans hbel hb4; clear hbel; have hbel := hbel2; have HO2 := Lib.hid ho4; clear ho4 hb4 hg4 hbel2))
              go_roundw
              case rel => exact ⟨.inr (.inl ⟨rfl, HO2.out⟩), hbel⟩
              case measure => simp [intOf]
            · have HO := Lib.hid ho
              have x1 := a7 _ hbel
              clear ho
              go_wp2_with (first | (go_at_call 52; (with_reducible refine (pref_word' p.l1 _ HB6.out.1 HB6.out.2).mono ?_); rintro e wq ⟨vq, rfl, hoq, hbq⟩; obtain ⟨aq, cq, eq, hiq⟩ := ints_of_own hoq (W8_wf _); rw [W8_len] at eq hiq; subst eq; have R := Lib.hid hiq; replace HO := Lib.hid (HO.out.later hbq); replace hbel := belStep hbel hbq; clear hoq hbq hiq) | (at_builtin; refine wpList_app_ints rfl _ _ 28 rfl W1.heap.size 5 .u8 1 Try.underlying28 info_u8 _ _ rfl HO.out _ _ _ (W8 p.l1.toNat) rfl R.out (by simp only [List.length_append, sbl_len, List.length_cons, List.length_nil, W8_len, PodV.head_len, maxLen]; omega) (by simp only [List.length_append, sbl_len, List.length_cons, List.length_nil, W8_len, PodV.head_len, maxLen]; omega) (Below.size (show Below W1.heap.size W1 _ from hbel)) ?_; intro v4 w4 ho4 hb4 hg4; have hbel2 := Below.trans hbel hb4; clear hbel; have hbel := hbel2; have HO2 := Lib.hid ho4; clear ho4 hb4 hg4 hbel2))
              go_roundw
              case rel => exact ⟨.inr (.inr (.inl ⟨rfl, HO2.out⟩)), hbel⟩
              case measure => simp [intOf]
            · have HO := Lib.hid ho
              have x1 := a8 _ hbel
              clear ho
              go_wp2_with (first | (go_at_call 52; (with_reducible refine (pref_word' p.l2 _ HB7.out.1 HB7.out.2).mono ?_); rintro e wq ⟨vq, rfl, hoq, hbq⟩; obtain ⟨aq, cq, eq, hiq⟩ := ints_of_own hoq (W8_wf _); rw [W8_len] at eq hiq; subst eq; have R := Lib.hid hiq; replace HO := Lib.hid (HO.out.later hbq); replace hbel := belStep hbel hbq; clear hoq hbq hiq) | (at_builtin; refine wpList_app_ints rfl _ _ 28 rfl W1.heap.size 5 .u8 1 Try.underlying28 info_u8 _ _ rfl HO.out _ _ _ (W8 p.l2.toNat) rfl R.out (by simp only [List.length_append, sbl_len, List.length_cons, List.length_nil, W8_len, PodV.head_len, maxLen]; omega) (by simp only [List.length_append, sbl_len, List.length_cons, List.length_nil, W8_len, PodV.head_len, maxLen]; omega) (Below.size (show Below W1.heap.size W1 _ from hbel)) ?_; intro v4 w4 ho4 hb4 hg4; have hbel2 := Below.trans hbel hb4; clear hbel; have hbel := hbel2; have HO2 := Lib.hid ho4; clear ho4 hb4 hg4 hbel2))
              go_roundw
              case rel => exact ⟨.inr (.inr (.inr (⟨rfl, HO2.out⟩))), hbel⟩
              case measure => simp [intOf]
            · have HO := Lib.hid ho
              clear ho
              have x2 := a2 _ hbel
              clear a2
              rcases Bool.eq_false_or_eq_true p.crit with hc | hc
              · rw [hc] at x2
                have ECR := Lib.hid hc
                clear hc
                go_wp2_with (at_builtin; go_loud (refine wpList_app_one rfl _ _ 28 rfl W1.heap.size 5 .u8 1 Try.underlying28 info_u8 _ _ rfl (HO.out.alloc (.cells #[.int .u8 1] 5)) _ _ rfl (by simp; rfl) (by simp only [List.length_append, sbl_len, List.length_cons, List.length_nil, W8_len, PodV.head_len, maxLen]; omega) (by simp only [List.length_append, sbl_len, List.length_cons, List.length_nil, W8_len, PodV.head_len, maxLen]; omega) (by have := hbel.size; simp; omega) ?_; intro v6 w6 ho6 hb6 hg6 hm6; have hbel2 := (belAlloc hbel _).trans hb6; clear hbel; have hbel := hbel2; have HO2 := Lib.hid ho6; clear ho6 hb6 hg6 hm6 hbel2))
                go_ret
                refine ⟨_, rfl, ?_, belStep HW.out hbel⟩
                have hx := HO2.out
                rw [HBY.out, ECR.out]
                simp only [PodV.nums, List.flatMap_cons, List.flatMap_nil, List.append_nil, List.append_assoc] at hx ⊢
                exact hx.mono HW.out.size
              · rw [hc] at x2
                have ECR := Lib.hid hc
                clear hc
                go_wp2_with (at_builtin; go_loud (refine wpList_app_one rfl _ _ 28 rfl W1.heap.size 5 .u8 1 Try.underlying28 info_u8 _ _ rfl (HO.out.alloc (.cells #[.int .u8 0] 5)) _ _ rfl (by simp; rfl) (by simp only [List.length_append, sbl_len, List.length_cons, List.length_nil, W8_len, PodV.head_len, maxLen]; omega) (by simp only [List.length_append, sbl_len, List.length_cons, List.length_nil, W8_len, PodV.head_len, maxLen]; omega) (by have := hbel.size; simp; omega) ?_; intro v6 w6 ho6 hb6 hg6 hm6; have hbel2 := (belAlloc hbel _).trans hb6; clear hbel; have hbel := hbel2; have HO2 := Lib.hid ho6; clear ho6 hb6 hg6 hm6 hbel2))
                go_ret
                refine ⟨_, rfl, ?_, belStep HW.out hbel⟩
                have hx := HO2.out
                rw [HBY.out, ECR.out]
                simp only [PodV.nums, List.flatMap_cons, List.flatMap_nil, List.append_nil, List.append_assoc] at hx ⊢
                exact hx.mono HW.out.size
end Go.Proofs.Ytpmkhimmlpnbpaa
