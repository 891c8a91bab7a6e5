
/- The order of the list doesn't matter to who goes; bilgeref20.SameTexts of the same texts. -/
import Derived.Test.YtbifmmdiekodjaaVicWM
namespace Go.Proofs.Ytbifmmdiekodjaa
open Go.RowKit
set_option linter.unusedVariables false
set_option linter.unusedSimpArgs false
theorem goF_perm (R : Room) : ∀ (m st st2 : List PodV), st2.Perm st → goF R st2 m = goF R st m
  | [], _, _, _ => rfl
  | v :: m, st, st2, h => by
    unfold goF
    rw [fitsB_perm R (h.append_right [v])]
    rw [goF_perm R m (st ++ [v]) (st2 ++ [v]) (h.append_right [v]), goF_perm R m st st2 h]
theorem choose_perm (R : Room) {L M : List PodV} (p : PodV) (hd : Dist L) (h : M.Perm L) : chooseF R M p = chooseF R L p := by
  have h1 : (stF M p).Perm (stF L p) := h.filter _
  have h2 : sortP (mayF M p) = sortP (mayF L p) := sortP_congr (hd.sub List.filter_sublist) (h.filter _)
  unfold chooseF
  rw [fitsB_perm R (h.append_right [p]), fitsB_perm R (h1.append_right [p]), h2, goF_perm R _ _ _ (h1.append_right [p])]
/-- What Choose answers, as a row of texts that stays. -/
theorem choose_call (R : Room) (p : PodV) (c : Option (List ByteArray)) (a : Option Addr) (len cap : Nat) (L : List PodV) (v : World) (hl : L.length = len) (hok : ∀ x ∈ L, x.ok) (hR : Row v a len cap 11 (L.flatMap PodV.cells)) (hd : Dist L) (hb : len ≤ 1000) (hp : p.ok) (hc : chooseF R L p = c) :
    Calls Try.prog 17 #[.agg #[.int .i64 R.a, .int .i64 R.b, .int .i64 R.c], .slice a len cap, .agg #[.string p.id, .int .i64 p.prio, .bool p.crit, .int .i64 p.r0, .int .i64 p.r1, .int .i64 p.r2, .int .i64 p.l0, .int .i64 p.l1, .int .i64 p.l2, .string p.img, .int .i64 p.size]] v fun e w' => (∃ b n, e = .returned (.tuple #[.slice b (c.getD []).length n, .bool c.isSome]) ∧ Row w' b (c.getD []).length n 1 ((c.getD []).map Value.string)) ∧ Below v.heap.size v w' := by
  refine (vic_Choose R p a len cap L v hl hok hR hd hb hp).mono ?_
  rintro e w' ⟨hr, hb⟩
  refine ⟨?_, hb⟩
  rw [hc] at hr
  rcases hr with ⟨rfl, rfl⟩ | ⟨G, v5, rfl, rfl, hO⟩
  · exact ⟨none, 0, rfl, rfl, Nat.le_refl _, by unfold maxLen; omega, fun _ => ⟨rfl, rfl⟩, .inl rfl⟩
  · obtain ⟨a5, c5, rfl, h5⟩ := rowR_of_own hO
    exact ⟨a5, c5, rfl, h5⟩
theorem text_cell {w : World} {a : Option Addr} {n cap : Nat} {G : List ByteArray} (h : Row w a n cap 1 (G.map Value.string)) {k : Nat} {s : ByteArray} (hs : G[k]? = some s) : ∃ b off, a = some ⟨b, off, none⟩ ∧ w.cell? ⟨b, off + k, none⟩ = some (.string s) := by
  obtain ⟨_, _, _, _, h5⟩ := h
  have hk : (G.map Value.string)[k]? = some (.string s) := by rw [List.getElem?_map, hs]; rfl
  rcases h5 with h5 | ⟨b, off, e, hc⟩
  · rw [h5] at hk; cases hk
  · refine ⟨b, off, e, ?_⟩
    rw [hc k (by rcases Nat.lt_or_ge k (G.map Value.string).length with q | q; exact q; rw [List.getElem?_eq_none q] at hk; cases hk), hk]
theorem flat_drop (L : List PodV) (k j : Nat) (hk : k ≤ L.length) : ((L.drop k).flatMap PodV.cells)[j]? = (L.flatMap PodV.cells)[k * 11 + j]? := by
  have h : L.flatMap PodV.cells = (L.take k).flatMap PodV.cells ++ (L.drop k).flatMap PodV.cells := by rw [← List.flatMap_append, List.take_append_drop]
  have hn : ((L.take k).flatMap PodV.cells).length = k * 11 := by rw [flatMap_len PodV.cells 11 PodV.cells_len, List.length_take, Nat.min_eq_left hk]
  rw [h, List.getElem?_append_right (by omega), hn, Nat.add_sub_cancel_left]
theorem flat_take (L : List PodV) (k j : Nat) (hj : j < ((L.take k).flatMap PodV.cells).length) : ((L.take k).flatMap PodV.cells)[j]? = (L.flatMap PodV.cells)[j]? := by
  have h : L.flatMap PodV.cells = (L.take k).flatMap PodV.cells ++ (L.drop k).flatMap PodV.cells := by rw [← List.flatMap_append, List.take_append_drop]
  rw [h, List.getElem?_append_left hj]
theorem row_drop {w : World} {a : Option Addr} {cap k : Nat} {L : List PodV} (h : Row w a L.length cap 11 (L.flatMap PodV.cells)) (hk : k ≤ L.length) :
    Row w (if cap = k then a else Option.map (fun x => x.add (k * 11)) a) (L.length - k) (cap - k) 11 ((L.drop k).flatMap PodV.cells) := by
  obtain ⟨r1, r2, r3, r4, r5⟩ := h
  refine ⟨by rw [flatMap_len PodV.cells 11 PodV.cells_len, List.length_drop], by omega, by omega, ?_, ?_⟩
  · intro hn
    have ha : a = none := by
      by_cases e : cap = k
      · rw [if_pos e] at hn; exact hn
      · rw [if_neg e] at hn
        cases a with
        | none => rfl
        | some x => cases hn
    obtain ⟨h1, h2⟩ := r4 ha
    omega
  · by_cases e : k = L.length
    · left
      subst e
      rw [List.drop_length]
      rfl
    · right
      have hkl : k < L.length := by omega
      rcases r5 with r5 | ⟨b, off, rfl, hc⟩
      · have := congrArg List.length r5
        rw [flatMap_len PodV.cells 11 PodV.cells_len] at this
        simp only [List.length_nil] at this
        omega
      · refine ⟨b, off + k * 11, ?_, fun j hj => ?_⟩
        · rw [if_neg (by omega)]
          obtain ⟨m, hm⟩ : ∃ m, k * 11 = m := ⟨_, rfl⟩
          rw [hm]
          cases m <;> simp [Addr.add]
        · rw [flat_drop L k j hk, Nat.add_assoc]
          refine hc _ ?_
          rw [flatMap_len PodV.cells 11 PodV.cells_len] at hj ⊢
          rw [List.length_drop] at hj
          omega
theorem row_take {w : World} {a : Option Addr} {cap k : Nat} {L : List PodV} (h : Row w a L.length cap 11 (L.flatMap PodV.cells)) (hk : k ≤ L.length) :
    Row w a k cap 11 ((L.take k).flatMap PodV.cells) := by
  obtain ⟨r1, r2, r3, r4, r5⟩ := h
  refine ⟨by rw [flatMap_len PodV.cells 11 PodV.cells_len, List.length_take, Nat.min_eq_left hk], by omega, r3, fun hn => ?_, ?_⟩
  · obtain ⟨h1, h2⟩ := r4 hn
    omega
  · rcases r5 with r5 | ⟨b, off, rfl, hc⟩
    · left
      have h1 := congrArg List.length r5
      rw [flatMap_len PodV.cells 11 PodV.cells_len] at h1
      simp only [List.length_nil] at h1
      refine List.eq_nil_of_length_eq_zero ?_
      rw [flatMap_len PodV.cells 11 PodV.cells_len, List.length_take]
      omega
    · refine .inr ⟨b, off, rfl, fun j hj => ?_⟩
      rw [flat_take L k j hj]
      refine hc j ?_
      rw [flatMap_len PodV.cells 11 PodV.cells_len] at hj ⊢
      rw [List.length_take] at hj
      omega
section
variable {P : Program} {w : World} {o : Oper} {a : Act} {K : Act → World → Prop} {Q : Exit → Act → World → Prop} {E : Prop}
/-- 'append(own, row...)', where the row may be nil. -/
theorem op_appO {ops : Array Oper} {tm : Array Value} (hg : o.guard = none) (s x : Operand) (t : TypeId)
    (ho : o.op = .call { callee := .builtin .append, args := #[s, x], argTypes := #[t, t] })
    (B : Nat) (e : TypeId) (z : Value) (size bytes : Nat) (ht : P.underlying t = some (.slice e)) (hi : (P.info? e).map (fun i => (i.zero, i.size, i.bytes)) = some (some z, size, bytes))
    (hzs : z.cells.size = size) (hsz : 0 < size)
    (v : Value) (n : Nat) (cs : List Value) (hs : a.eval s = v) (hown : OwnR w B e size v n cs)
    (sa : Option Addr) (len cap : Nat) (ds : List Value) (hx : a.eval x = .slice sa len cap) (hr : Row w sa len cap size ds) (hone : ∀ u ∈ ds, u.oneCell' = true)
    (hm : n + len ≤ maxLen) (hby : (n + len) * bytes ≤ 140737488355328) (hB : B ≤ w.heap.size)
    (h : ∀ v' w', OwnR w' B e size v' (n + len) (cs ++ ds) → Below B w w' → K (a.put o.dst v') w') : if Region.wanted o (yielded ops tm) = true then Oper.wp P o a w K Q else E := by
  cases sa with
  | some ad => exact op_appR hg s x t ho B e z size bytes ht hi hzs hsz v n cs hs hown ad len cap ds hx hr hone hm hby hB h
  | none =>
    have hw : Region.wanted o (yielded ops tm) = true := by simp [Region.wanted, hg]
    rw [if_pos hw]
    obtain ⟨i, hi0, hz, hszi, hbs⟩ : ∃ i, P.info? e = some i ∧ i.zero = some z ∧ i.size = size ∧ i.bytes = bytes := by
      cases hp : P.info? e with
      | none => rw [hp] at hi; simp at hi
      | some i => rw [hp] at hi; simp at hi; exact ⟨i, rfl, hi.1, hi.2.1, hi.2.2⟩
    obtain ⟨r1, r2, r3, r4, r5⟩ := hr
    obtain ⟨rfl, rfl⟩ := r4 rfl
    obtain rfl : ds = [] := List.eq_nil_of_length_eq_zero (by omega)
    have hrun := run_append_owned_none (P := P) w B t o.type e i size ht hi0 v n cs hown
    unfold Oper.wp execOp
    simp only [ho, resolve, invoke, builtin, Sem.run_bind, Sem.run_pure, Result.andThen_ok, List.map_toArray, List.map_cons, List.map_nil, hs, hx, hrun]
    exact h v w (by rw [Nat.add_zero, List.append_nil]; exact hown) (Below.refl B w)
end
set_option maxRecDepth 100000 in
set_option maxHeartbeats 8000000 in
theorem same_texts (a b : Option Addr) (n c1 c2 : Nat) (G : List ByteArray) (w : World) (hn : G.length = n) (h1 : Row w a n c1 1 (G.map Value.string)) (h2 : Row w b n c2 1 (G.map Value.string)) :
    Calls Try.prog 14 #[.slice a n c1, .slice b n c2] w fun e w' => e = .returned (.bool true) ∧ Below w.heap.size w w' := by
  have hbd : n ≤ c1 ∧ c1 ≤ 9223372036854775807 := by obtain ⟨_, h1, h2, _⟩ := h1; unfold maxLen at h2; exact ⟨h1, h2⟩
  have hbd2 : n ≤ c2 := by obtain ⟨_, h1, h2, _⟩ := h2; exact h1
  obtain ⟨hbd0, hbd1⟩ := hbd
  have H1 := Lib.hid h1
  have H2 := Lib.hid h2
  clear h1 h2
  subst hn
  have hbel : Below w.heap.size w w := Below.refl _ _
  go_enter Try.func14, Try.ntmps14
  go_wp2
  have HB := Lib.hid hbel
  clear hbel
  go_loopw [5] (fun i wr => ∃ k : Nat, k ≤ G.length ∧ i = .int .i64 k ∧ Below w.heap.size w wr) (fun i _ => G.length - (intOf i).toNat)
  case atStart => exact ⟨0, Nat.zero_le _, rfl, HB.out⟩
  case round =>
    obtain ⟨k, hk, rfl, hbel⟩ := hrel
    by_cases hlt : k < G.length
    · obtain ⟨s, hs⟩ : ∃ s, G[k]? = some s := ⟨G[k], List.getElem?_eq_getElem hlt⟩
      obtain ⟨ab, ao, rfl, ca⟩ := text_cell H1.out hs
      obtain ⟨bb, bo, rfl, cb⟩ := text_cell H2.out hs
      have x0 := keep ca
      have y0 := keep cb
      have hd : decide ((k : Int) < (G.length : Int)) = true := decide_eq_true (by omega)
      clear hs ca cb
      go_upto_region 6 with fail
      have kk := fun d os => belStep hbel (below_regrown _ d os)
      refine wp_region_quiet_below (by kernel_rfl) (by kernel_rfl) ?_
      repeat ((with_reducible refine wpQuiet_step (fun K hK => ?_)); go_simp; (try (rw [if_neg]; rotate_left; · decide)); first | ((with_reducible refine hK _ ?_); clear hK K) | (apply Exists.intro; refine ⟨fun _ => ?_, hK _ ?_⟩; (fail); clear hK K))
      refine wpQuiet_nil (fun w1 hw1 => ?_)
      replace hbel := belStep hbel (bel_of_class hw1)
      clear hw1 kk
      go_wp2
      go_roundw
      case rel => exact ⟨k + 1, by omega, by push_cast; rfl, hbel⟩
      case measure => simp [intOf] <;> omega
    · obtain rfl : k = G.length := by omega
      have hd : decide ((G.length : Int) < (G.length : Int)) = false := decide_eq_false (by omega)
      go_wp2
      go_ret
      exact ⟨rfl, hbel⟩
end Go.Proofs.Ytbifmmdiekodjaa
