
/- Stage 10: disk.apply: contract. -/
import Derived.Test.YtcbblgeleboggaaDk2
namespace Go.Proofs.Ytcbblgeleboggaa
open Go.RowKit Go.Sort Go.Maps Go.WideMaps
set_option linter.unusedVariables false
set_option linter.unusedSimpArgs false
theorem strs_keyedD : Keyed Try.prog 9 := string_keyed Try.underlying9
theorem zero_slD (w : World) : (zeroValue 29).run Try.prog w = .ok (.slice none 0 0) w := by kernel_rfl
theorem row_ne_map {w : World} {a : Option Addr} {n c k : Nat} {cs : List Value} (hr : Row w a n c k cs) (hc : cs ≠ []) {mb clock : Nat} {es : Array MapEntry} (hm : w.heap[mb]? = some (.map es clock)) {x : Addr} (ex : a = some x) : x.block ≠ mb := by
  obtain ⟨_, _, _, _, h5⟩ := hr
  rcases h5 with h5 | ⟨g, o, e2, h5⟩
  · exact absurd h5 hc
  · rw [ex] at e2; cases e2
    intro e
    have h6 := h5 0 (List.length_pos_iff.2 hc)
    rw [List.getElem?_eq_getElem (List.length_pos_iff.2 hc)] at h6
    subst e
    unfold World.cell? at h6
    rw [hm] at h6
    simp at h6
theorem BytesX.apartM {X : List Nat} {u v : World} {a : Option Addr} {c mb n : Nat} {Z : List Int} {D : DataW Value} (h : BytesX X u a c Z) (hm : u.ownsMap Try.prog 9 RH mb n D) (hA : Apart [mb] u v) : BytesX X v a c Z := by
  obtain ⟨es, clock, hb, _⟩ := hm
  exact ⟨hA.ints h.1 (fun q x ex hx => row_ne_map h.1.1 (by simpa using q) hb ex (by simpa using hx)), h.2⟩
theorem Link.apartM {X : List Nat} {u v : World} {D D2 : DataW Value} {L : List FileM} {mb n : Nat} (h : Link X u D L) (hm : u.ownsMap Try.prog 9 RH mb n D2) (hA : Apart [mb] u v) : Link X v D L := h.conv (fun a c Z q => q.apartM hm hA)
theorem turned_apart {u v : World} {mb : Nat} (h : u.mapTurned v mb) : Apart [mb] u v := Apart.of_grown h.grown (fun b hb => by cases hb; simp)
theorem Blk.ne_map {w : World} {g mb clock : Nat} {C : List Value} {T : TypeId} {es : Array MapEntry} (h : Blk w g C T) (hm : w.heap[mb]? = some (.map es clock)) : g ≠ mb := fun e => by
  subst e; unfold Blk at h; rw [hm] at h; cases h
theorem Blk.apartM {u v : World} {g mb n : Nat} {C : List Value} {T : TypeId} {D : DataW Value} (h : Blk u g C T) (hm : u.ownsMap Try.prog 9 RH mb n D) (hA : Apart [mb] u v) : Blk v g C T := by
  obtain ⟨es, clock, hb, _⟩ := hm
  exact h.apart hA (fun q => h.ne_map hb (by simpa using q))
section
variable {P : Program} {w : World} {ops : Array Oper} {rest : List Oper} {o : Oper} {a : Act} {Q : Exit → Act → World → Prop}
theorem wpList_lookup_held (hg : o.guard = none) (m x : Operand) (t : TypeId) (hop : o.op = Op.lookup t m x true)
    (k e : TypeId) (K : Keyed P k) (ht : P.underlying t = some (.map k e)) (hz : (zeroValue e).run P w = .ok (.slice none 0 0) w) (b n : Nat) (D : DataW Value)
    (hm : a.eval m = .map (some b)) (hown : w.ownsMap P k RH b n D) (key : Value) (kl : Lit) (hx : a.eval x = key) (hkey : keyOf P k key = some kl) (v0 : Value) (hat : ∀ z, D.atKey kl z = .held v0) (q : Bool) (hq : Maps.has D kl = q)
    (hK : wpList P ops Q rest (a.put o.dst (.tuple #[v0, .bool q])) w) :
    wpList P ops Q (o :: rest) a w :=
  wpList_lookup_own_ok w hg m x t hop k e K ht RH hz (.held (.slice none 0 0)) [] rfl b n D hm hown key kl hx hkey (fun v ps hv => by
    have e : v = v0 := by unfold RH at hv; rw [hat] at hv; simp at hv; exact hv.1
    subst e; rw [hq]; exact hK)
end
theorem has_no {D : DataW Value} {k : Lit} (h : Maps.has D k = false) (z : DataW Value) : D.atKey k z = z := by
  cases D <;> try rfl
  rename_i es
  unfold DataW.atKey
  dsimp only
  rw [List.find?_eq_none.2 (fun p hp => by have := List.any_eq_false.1 (show es.any (fun p => p.1.sameKey k) = false from h) p hp; simpa using this)]
theorem ints_takeD {w : World} {a : Option Addr} {n c : Nat} {Z : List Int} (h : Ints .u8 w a n c Z) {j : Nat} (hj : j ≤ Z.length) : Ints .u8 w a j c (Z.take j) := by
  obtain ⟨⟨h1, h2, h3, h4, h5⟩, h6⟩ := h
  have hl : Z.length = n := by simpa using h1
  refine ⟨⟨by rw [List.length_map, List.length_take]; omega, by omega, h3, fun e => by have := h4 e; omega, ?_⟩, fun x hx => h6 x (List.mem_of_mem_take hx)⟩
  rcases h5 with h5 | ⟨b, off, e, h5⟩
  · left; rw [List.map_eq_nil_iff] at h5 ⊢; rw [h5]; exact List.take_nil
  · refine .inr ⟨b, off, e, fun i hi => ?_⟩
    rw [List.length_map, List.length_take] at hi
    rw [h5 i (by rw [List.length_map]; omega), List.getElem?_map, List.getElem?_map, List.getElem?_take_of_lt (by omega)]
section
variable {P : Program} {w : World} {ops : Array Oper} {rest : List Oper} {o : Oper} {a : Act} {Q : Exit → Act → World → Prop}
theorem wpList_lookup_none (hg : o.guard = none) (m x : Operand) (t : TypeId) (hop : o.op = Op.lookup t m x true)
    (k e : TypeId) (K : Keyed P k) (ht : P.underlying t = some (.map k e)) (hz : (zeroValue e).run P w = .ok (.slice none 0 0) w) (b n : Nat) (D : DataW Value)
    (hm : a.eval m = .map (some b)) (hown : w.ownsMap P k RH b n D) (key : Value) (kl : Lit) (hx : a.eval x = key) (hkey : keyOf P k key = some kl) (hq : Maps.has D kl = false)
    (hK : wpList P ops Q rest (a.put o.dst (.tuple #[.slice none 0 0, .bool false])) w) :
    wpList P ops Q (o :: rest) a w :=
  wpList_lookup_own_ok w hg m x t hop k e K ht RH hz (.held (.slice none 0 0)) [] rfl b n D hm hown key kl hx hkey (fun v ps hv => by
    have e : v = .slice none 0 0 := by unfold RH at hv; rw [has_no hq] at hv; simp at hv; exact hv.1
    subst e; rw [hq]; exact hK)
end
set_option maxRecDepth 100000 in
set_option maxHeartbeats 32000000 in
theorem dk_apply (mb n : Nat) (D : DataW Value) (L : List FileM) (X : List Nat) (o : OpV) (w : World) (hm : w.ownsMap Try.prog 9 RH mb n D) (hn : n ≤ 1000000) (hl : Link X w D L) (hz : BytesX X w o.ba o.bc o.Z) (hs : o.name.size ≤ maxLen) (hs2 : o.dst.size ≤ maxLen) :
    Calls Try.prog 37 #[.map (some mb), .agg #[.int .i64 o.kind, .string o.name, .string o.dst, .slice o.ba o.Z.length o.bc]] w fun e w' => e = .returned (.tuple #[]) ∧ ∃ D', w'.ownsMap Try.prog 9 RH mb (n + 1) D' ∧ Link X w' D' (applyF L o.m) ∧ Apart [mb] w w' := by
  have hbd : o.Z.length ≤ o.bc ∧ o.bc ≤ 9223372036854775807 := by obtain ⟨⟨⟨_, h1, h2, _⟩, _⟩, _⟩ := hz; unfold maxLen at h2; exact ⟨h1, h2⟩
  obtain ⟨hbd1, hbd2⟩ := hbd
  go_enter Try.func37, Try.ntmps37
  go_upto_region 1 with fail
  have HA := Lib.hid (Blk.new w [.int .i64 o.kind, .string o.name, .string o.dst, .slice o.ba o.Z.length o.bc] 49)
  have kA := belAlloc (Below.refl w.heap.size w) (.cells #[.int .i64 o.kind, .string o.name, .string o.dst, .slice o.ba o.Z.length o.bc] 49)
  have HM := Lib.hid (ownsMap_same hm (kA.block mb hm.lt))
  have HL := Lib.hid (hl.conv (fun a c Z q => BytesX.later q kA))
  have HZ := Lib.hid (hz.later kA)
  have HAP := Lib.hid (Apart.of_below (F := [mb]) kA)
  have HKN := Lib.hid (show keyOf Try.prog 9 (.string o.name) = some (keyD o.name) from keyOf_string_mk Try.underlying9 hs)
  have HKD := Lib.hid (show keyOf Try.prog 9 (.string o.dst) = some (keyD o.dst) from keyOf_string_mk Try.underlying9 hs2)
  clear hm hl hz kA hs hs2
  generalize (w.alloc (.cells #[.int .i64 o.kind, .string o.name, .string o.dst, .slice o.ba o.Z.length o.bc] 49)) = W1 at *
  have a0 := HA.out.cell (j := 0) rfl
  have a1 := HA.out.cell (j := 1) rfl
  have a2 := HA.out.cell (j := 2) rfl
  have a3 := HA.out.cell (j := 3) rfl
  by_cases k1 : o.kind = 1
  · have d1 : (o.kind == (1 : Int)) = true := by rw [k1]; rfl
    have HE := Lib.hid (show applyF L o.m = putF L o.name o.Z by unfold applyF OpV.m; rw [if_pos k1])
    clear k1
    go_wp2_with (at_mapUpdate; refine wpList_mapUpdate_in _ rfl _ _ _ 58 rfl 9 29 strs_keyedD Try.underlying58 RH mb (n) (D) rfl HM.out (by unfold maxLen; omega) _ _ _ rfl rfl HKN.out _ [] rfl ?_; intro w2 ho_ ht_; have HOw2 := Lib.hid ho_; have HTw2 := Lib.hid (turned_apart ht_); clear ho_ ht_)
    go_end0
    exact ⟨rfl, _, HOw2.out, by rw [HE.out]; exact (HL.out.apartM HM.out HTw2.out).put o.name (HZ.out.apartM HM.out HTw2.out), HAP.out.trans HTw2.out⟩
  · have d1 : (o.kind == (1 : Int)) = false := by rw [beq_eq_false_iff_ne]; exact k1
    have HK1 := Lib.hid k1
    clear k1
    by_cases k2 : o.kind = 2
    · have d2 : (o.kind == (2 : Int)) = true := by rw [k2]; rfl
      have HE := Lib.hid (show applyF L o.m = moveF L o.name o.dst by unfold applyF OpV.m; rw [if_neg HK1.out, if_pos k2])
      clear k2
      obtain ⟨hh, hv⟩ := HL.out.2 o.name
      cases hg : getF L o.name with
      | none =>
        rw [hg] at hh
        have HH := Lib.hid hh
        have HEE := Lib.hid (HE.out.trans (move_none hg))
        clear hh hv hg
        have hat := fun z => has_no HH.out z
        have HAT := Lib.hid (show ∀ v ps, RH v = some (D.atKey (keyD o.name) (.held (.slice none 0 0)), ps) → v = .slice none 0 0 from fun v ps hv => by unfold RH at hv; rw [hat] at hv; simp at hv; exact hv.1)
        clear hat
        go_wp2_with (at_lookup; refine wpList_lookup_none rfl _ _ 58 rfl 9 29 strs_keyedD Try.underlying58 (zero_slD _) mb n D rfl HM.out _ _ rfl HKN.out HH.out ?_)
        go_end0
        exact ⟨rfl, D, HM.out.mono (Nat.le_succ _), by rw [HEE.out]; exact HL.out, HAP.out⟩
      | some Z =>
        rw [hg] at hh
        have HH := Lib.hid (show Maps.has D (keyD o.name) = true from hh)
        obtain ⟨fa, fc, hat, hbz⟩ := hv Z hg
        have HAT := Lib.hid hat
        have HBZ := Lib.hid hbz
        have HG := Lib.hid hg
        clear hh hv hg hat hbz
        cases he : (o.name.toList == o.dst.toList) with
        | true =>
          have HEE := Lib.hid (HE.out.trans (move_same he))
          have he2 : (o.dst.toList == o.name.toList) = true := by rw [eq_of_beq he]; simp
          go_wp2_with (at_lookup; refine wpList_lookup_held rfl _ _ 58 rfl 9 29 strs_keyedD Try.underlying58 (zero_slD _) mb n D rfl HM.out _ _ rfl HKN.out _ HAT.out true HH.out ?_)
          go_end0
          exact ⟨rfl, D, HM.out.mono (Nat.le_succ _), by rw [HEE.out]; exact HL.out, HAP.out⟩
        | false =>
          have HEE := Lib.hid (HE.out.trans (move_get HG.out he))
          go_upto_region 7 with (at_lookup; refine wpList_lookup_held rfl _ _ 58 rfl 9 29 strs_keyedD Try.underlying58 (zero_slD _) mb n D rfl HM.out _ _ rfl HKN.out _ HAT.out true HH.out ?_)
          go_upto_region 8 with (at_mapUpdate; refine wpList_mapUpdate_in _ rfl _ _ _ 58 rfl 9 29 strs_keyedD Try.underlying58 RH mb (n) (D) rfl HM.out (by unfold maxLen; omega) _ _ _ rfl rfl HKD.out _ [] rfl ?_; intro w2 ho_ ht_; have HOw2 := Lib.hid ho_; have HTw2 := Lib.hid (turned_apart ht_); clear ho_ ht_)
          have HL2 := Lib.hid ((HL.out.apartM HM.out HTw2.out).put o.dst (HBZ.out.apartM HM.out HTw2.out))
          have HA2 := Lib.hid (HA.out.apartM HM.out HTw2.out)
          clear a0 a1 a2 a3
          have a1 := HA2.out.cell (j := 1) rfl
          go_wp2_with (at_delete; refine wpList_delete_own _ rfl _ _ 58 9 rfl 29 strs_keyedD Try.underlying58 RH mb (n + 1) (D.put (keyD o.dst) (.held (.slice fa Z.length fc))) rfl HOw2.out _ _ rfl HKN.out ?_; intro w3 ho_ ht_; have HOw3 := Lib.hid ho_; have HTw3 := Lib.hid (turned_apart ht_); clear ho_ ht_)
          go_end0
          exact ⟨rfl, _, HOw3.out, by rw [HEE.out]; exact (HL2.out.apartM HOw2.out HTw3.out).del o.name, (HAP.out.trans HTw2.out).trans HTw3.out⟩
    · have d2 : (o.kind == (2 : Int)) = false := by rw [beq_eq_false_iff_ne]; exact k2
      have HK2 := Lib.hid k2
      clear k2
      by_cases k3 : o.kind = 3
      · have d3 : (o.kind == (3 : Int)) = true := by rw [k3]; rfl
        have HE := Lib.hid (show applyF L o.m = delF L o.name by unfold applyF OpV.m; rw [if_neg HK1.out, if_neg HK2.out, if_pos k3])
        clear k3
        go_wp2_with (at_delete; refine wpList_delete_own _ rfl _ _ 58 9 rfl 29 strs_keyedD Try.underlying58 RH mb (n) (D) rfl HM.out _ _ rfl HKN.out ?_; intro w2 ho_ ht_; have HOw2 := Lib.hid ho_; have HTw2 := Lib.hid (turned_apart ht_); clear ho_ ht_)
        go_end0
        exact ⟨rfl, _, HOw2.out.mono (Nat.le_succ _), by rw [HE.out]; exact (HL.out.apartM HM.out HTw2.out).del o.name, HAP.out.trans HTw2.out⟩
      · have d3 : (o.kind == (3 : Int)) = false := by rw [beq_eq_false_iff_ne]; exact k3
        have HE := Lib.hid (show applyF L o.m = L by unfold applyF OpV.m; rw [if_neg HK1.out, if_neg HK2.out, if_neg k3])
        clear k3
        go_wp2
        go_end0
        exact ⟨rfl, D, HM.out.mono (Nat.le_succ _), by rw [HE.out]; exact HL.out, HAP.out⟩
end Go.Proofs.Ytcbblgeleboggaa
