
/- sample.twice, the sorting of uses: contracts. -/
import Derived.Test.YtcgpmihjodolmaaSmp1
import Derived.Test.YtcgpmihjodolmaaPodNm
import Derived.Test.YtcgpmihjodolmaaShelfS
namespace Go.Proofs.Ytcgpmihjodolmaa
open Go.RowKit Go.Sort Go.Lib
set_option linter.unusedVariables false
set_option linter.unusedSimpArgs false
def cfU (x y : UseV) : Int := cS x.id y.id
theorem ltU_cf : ltOf cfU = ltU := by funext x y; unfold ltOf cfU ltU; exact decide_eq_decide.2 cS_neg
theorem swo_cfU : Go.Sort.SWO (ltOf cfU) := (ordS UseV.id).swo
theorem sortU_cf (L : List UseV) : sortBy (ltOf cfU) L = sortU L := by rw [ltU_cf]; rfl
theorem cmpB_list : ∀ l m : List UInt8, Lib.compareBytes l m = if l < m then -1 else if l = m then 0 else 1
  | [], [] => by simp [Lib.compareBytes]
  | [], b :: m => by simp [Lib.compareBytes]
  | a :: l, [] => by simp [Lib.compareBytes]
  | a :: l, b :: m => by
    rw [Lib.compareBytes, cmpB_list l m]
    rcases Nat.lt_trichotomy a.toNat b.toNat with h | h | h
    · have h1 : a < b := UInt8.lt_iff_toNat_lt.2 h
      rw [if_pos h1, if_pos (List.cons_lt_cons_iff.2 (.inl h1))]
    · have h1 : a = b := UInt8.toNat_inj.1 h
      subst h1
      have h2 : ¬ a < a := fun q => absurd (UInt8.lt_iff_toNat_lt.1 q) (Nat.lt_irrefl _)
      rw [if_neg h2, if_neg h2]
      by_cases k : l < m
      · rw [if_pos k, if_pos (List.cons_lt_cons_iff.2 (.inr ⟨rfl, k⟩))]
      · have h5 : ¬ a :: l < a :: m := fun q => by
          rcases List.cons_lt_cons_iff.1 q with q | ⟨_, q⟩
          · exact absurd q h2
          · exact absurd q k
        by_cases e : l = m
        · rw [if_neg k, if_pos e, if_neg h5, if_pos (by rw [e])]
        · rw [if_neg k, if_neg e, if_neg h5, if_neg (fun q => e (List.cons.inj q).2)]
    · have h1 : ¬ a < b := fun q => by have := UInt8.lt_iff_toNat_lt.1 q; omega
      have h2 : b < a := UInt8.lt_iff_toNat_lt.2 h
      have h3 : a ≠ b := fun q => by subst q; omega
      have h5 : ¬ a :: l < b :: m := fun q => by
        rcases List.cons_lt_cons_iff.1 q with q | ⟨q, _⟩
        · exact absurd q h1
        · exact absurd q h3
      rw [if_neg h1, if_pos h2, if_neg h5, if_neg (fun q => h3 (List.cons.inj q).1)]
theorem cmpB_cS (a b : ByteArray) : Lib.compareBytes a.data.toList b.data.toList = cS a b := by
  unfold cS
  rw [cmpB_list, Lib.toList_data, Lib.toList_data]
theorem smp_cmp (x y : UseV) (w : World) : Calls Try.prog 65 #[x.v, y.v] w fun e w' => e = .returned (.int .i64 (cfU x y)) ∧ GW w w' := by
  unfold UseV.v
  have CC : ∀ v, Calls Try.prog 66 #[.string x.id, .string y.id] v fun e w' => e = .returned (.int .i64 (cfU x y)) ∧ v = w' := fun v => (Try.strings_Compare x.id y.id v).mono (fun e w' h => ⟨by rw [h.1, cmpB_cS]; rfl, h.2.symm⟩)
  generalize cfU x y = c at *
  have C1 := Lib.hid CC
  clear CC
  have hg : GW w ((w.alloc (.cells #[.string x.id, .int .i64 x.a, .int .i64 x.b, .int .i64 x.c] 51)).alloc (.cells #[.string y.id, .int .i64 y.a, .int .i64 y.b, .int .i64 y.c] 51)) := ((GW.refl w).alloc _).alloc _
  go_enter Try.func65, Try.ntmps65
  go_wp2_with (go_at_call 66; (with_reducible refine (C1.out _).mono ?_); rintro e w2 ⟨rfl, rfl⟩)
  go_ret
  exact ⟨rfl, hg⟩
theorem sort_uses {w : World} {B : Nat} {v : Value} {n : Nat} {L : List UseV} (hd : Tied (ltOf cfU) L) (hl : L.length ≤ 100000) (h : OwnR w B 51 4 v n (L.flatMap UseV.cells)) (hn : L.length = n) :
    Calls Try.prog 64 #[v, .func (.func 65) #[] #[]] w fun e w' => e = .returned (.tuple #[]) ∧ OwnR w' B 51 4 v n ((sortBy (ltOf cfU) L).flatMap UseV.cells) ∧ w.grownBy w' v.ownBlock := by
  rcases own_sort UseV.cells 4 UseV.cells_len h hn with ⟨rfl, h0⟩ | ⟨g, cap, rfl, hB, hg, hH, hO, hG⟩
  · subst h0
    have hnil : L = [] := List.eq_nil_of_length_eq_zero hn
    subst hnil
    refine (Try.slices_SortFunc_none_f64 (α := UseV) none 0 (.func (.func 65) #[] #[]) w).mono ?_
    rintro e w' ⟨rfl, rfl⟩
    exact ⟨rfl, by rw [show sortBy (ltOf cfU) [] = [] from sortBy_nil]; exact h, ⟨rfl, rfl, rfl, Nat.le_refl _, fun _ _ _ => rfl⟩⟩
  · have eg : ∀ args w, (callFunc 65 args).run Try.prog w = .ok (.enter 65 args) w := enters_of Try.func65 (by kernel_rfl) rfl
    have hc := Try.slices_SortFunc_f64 4 Try.isAgg51 Try.sizeOf51 UseV.cells UseV.cells_len (fun x => use_one x) cfU (swo_cfU) 65 #[] g 0 cap L.toArray w eg (fun _ _ _ _ x y => (smp_cmp x y _).mono fun _ _ ⟨h1, h2⟩ => ⟨h1, h2⟩) hH hg (by simp; omega)
    rw [show L.toArray.size = n by simpa using hn] at hc
    refine hc.mono ?_
    rintro e w' ⟨rfl, d', m, os, hp, hs, rfl⟩
    have hsz : d'.size = n := by have := hp.1; simpa [hn] using this
    have hperm : d'.toList.Perm L := by
      have h3 := hp.2.2
      rw [← hn, show L.length = L.toArray.size by simp, Array.extract_size, show L.toArray.size = d'.size by simp [hsz, hn], Array.extract_size] at h3
      exact h3
    have hpw : d'.toList.Pairwise (fun x y => ltOf cfU y x = false) := by
      rw [List.pairwise_iff_getElem]
      intro i j hi hj hij
      have hi' : i < d'.size := by simpa using hi
      have hj' : j < d'.size := by simpa using hj
      have := hs i j (Nat.zero_le _) hij (by omega)
      rw [getElem!_pos d' j hj', getElem!_pos d' i hi'] at this
      simpa using this
    have he : d'.toList = sortBy (ltOf cfU) L := sortBy_unique (swo_cfU) hd hperm hpw
    have hda : d' = (sortBy (ltOf cfU) L).toArray := by rw [← he]
    subst hda
    exact ⟨rfl, hO m (sortBy (ltOf cfU) L) os (by rw [show (sortBy (ltOf cfU) L).length = L.length from sortBy_len _ _]; exact hn), hG m _ os⟩
set_option maxRecDepth 100000 in
set_option maxHeartbeats 16000000 in
theorem smp_twice (a : Option Addr) (len cap : Nat) (L : List UsgV) (w : World) (hl : L.length = len) (hR : Row w a len cap 4 (L.flatMap UsgV.cells)) :
    Calls Try.prog 53 #[.slice a len cap] w fun e w' => e = .returned (.bool (twiceB L)) ∧ Below w.heap.size w w' := by
  have hw0 : Below w.heap.size w w := Below.refl _ _
  have hbd_a : len ≤ cap ∧ cap ≤ 9223372036854775807 := by obtain ⟨_, h1, h2, _⟩ := hR; unfold maxLen at h2; exact ⟨h1, h2⟩
  obtain ⟨hbd1_a, hbd2_a⟩ := hbd_a
  have HR := Lib.hid hR
  clear hR
  subst hl
  go_enter Try.func53, Try.ntmps53
  go_wp2
  go_step3
  go_wp2
  go_step3
  go_wp2
  go_loopg [3, 10] L.length (fun g fd i wr => ∃ k : Nat, k + g = L.length ∧ fd = .bool false ∧ i = .int .i64 k ∧ Hid ((List.range k).any (twinAt L) = false) ∧ Below w.heap.size w wr)
  case atStart => exact ⟨0, by omega, rfl, rfl, Lib.hid rfl, hw0⟩
  case round =>
    obtain ⟨k, hkg, rfl, rfl, HT, hw⟩ := hrel
    clear hw0
    cases gk with
    | zero =>
      obtain rfl : k = L.length := by omega
      have hd : decide ((L.length : Int) < (L.length : Int)) = false := decide_eq_false (by omega)
      go_wp2
      try rw [Exit.noGoto_ret]
      go_ret
      exact ⟨ret_bool (show _ = twiceB L from HT.out.symm), hw⟩
    | succ g =>
      have hlt : k < L.length := by omega
      obtain ⟨x, hx⟩ : ∃ x, L[k]? = some x := ⟨L[k], List.getElem?_eq_getElem hlt⟩
      obtain ⟨bc, oc, ec, _, hcc⟩ := (HR.out.later hw).elem UsgV.cells_len (by omega) hx
      subst ec
      have c0 := keep (hcc 0 _ rfl)
      have c1 := keep (hcc 1 _ rfl)
      have c2 := keep (hcc 2 _ rfl)
      have c3 := keep (hcc 3 _ rfl)
      rw [Nat.add_zero] at c0
      have HX := Lib.hid hx
      have hd : decide ((k : Int) < (L.length : Int)) = true := decide_eq_true (by omega)
      have hkc : (k : Int) ≤ (cap : Int) := by omega
      clear hx hcc
      generalize wr = WO at *
      have hbel : Below WO.heap.size WO WO := Below.refl _ _
      go_upto_region 5 with fail
      have bx0 : (WO.alloc (.cells #[.string x.id, .float .f64 x.a, .float .f64 x.b, .float .f64 x.c] 47)).cell? ⟨WO.heap.size, 0, none⟩ = some (.string x.id) := by first | (simp; done) | (rw [World.cell?_alloc_at _ _ _ _ (by simp)]; rfl) | (rw [World.cell?_alloc_past _ _ _ (by simp <;> omega), World.cell?_alloc_at _ _ _ _ (by simp)]; rfl) | (rw [World.cell?_alloc_past _ _ _ (by simp <;> omega), World.cell?_alloc_past _ _ _ (by simp <;> omega), World.cell?_alloc_at _ _ _ _ (by simp)]; rfl)
      have bx1 : (WO.alloc (.cells #[.string x.id, .float .f64 x.a, .float .f64 x.b, .float .f64 x.c] 47)).cell? ⟨WO.heap.size, 1, none⟩ = some (.float .f64 x.a) := by first | (simp; done) | (rw [World.cell?_alloc_at _ _ _ _ (by simp)]; rfl) | (rw [World.cell?_alloc_past _ _ _ (by simp <;> omega), World.cell?_alloc_at _ _ _ _ (by simp)]; rfl) | (rw [World.cell?_alloc_past _ _ _ (by simp <;> omega), World.cell?_alloc_past _ _ _ (by simp <;> omega), World.cell?_alloc_at _ _ _ _ (by simp)]; rfl)
      have bx2 : (WO.alloc (.cells #[.string x.id, .float .f64 x.a, .float .f64 x.b, .float .f64 x.c] 47)).cell? ⟨WO.heap.size, 2, none⟩ = some (.float .f64 x.b) := by first | (simp; done) | (rw [World.cell?_alloc_at _ _ _ _ (by simp)]; rfl) | (rw [World.cell?_alloc_past _ _ _ (by simp <;> omega), World.cell?_alloc_at _ _ _ _ (by simp)]; rfl) | (rw [World.cell?_alloc_past _ _ _ (by simp <;> omega), World.cell?_alloc_past _ _ _ (by simp <;> omega), World.cell?_alloc_at _ _ _ _ (by simp)]; rfl)
      have bx3 : (WO.alloc (.cells #[.string x.id, .float .f64 x.a, .float .f64 x.b, .float .f64 x.c] 47)).cell? ⟨WO.heap.size, 3, none⟩ = some (.float .f64 x.c) := by first | (simp; done) | (rw [World.cell?_alloc_at _ _ _ _ (by simp)]; rfl) | (rw [World.cell?_alloc_past _ _ _ (by simp <;> omega), World.cell?_alloc_at _ _ _ _ (by simp)]; rfl) | (rw [World.cell?_alloc_past _ _ _ (by simp <;> omega), World.cell?_alloc_past _ _ _ (by simp <;> omega), World.cell?_alloc_at _ _ _ _ (by simp)]; rfl)
      have hb2 := (by repeat (first | exact hbel | refine belAlloc ?_ _ | refine belDrew ?_ | refine belSet ?_ _ _ (by simp)) : Below WO.heap.size WO (WO.alloc (.cells #[.string x.id, .float .f64 x.a, .float .f64 x.b, .float .f64 x.c] 47)))
      replace c0 := keepOnP c0 hb2
      replace c1 := keepOnP c1 hb2
      replace c2 := keepOnP c2 hb2
      replace c3 := keepOnP c3 hb2
      replace hw := belStep hw hb2
      clear hb2 hbel
      generalize WO.alloc (.cells #[.string x.id, .float .f64 x.a, .float .f64 x.b, .float .f64 x.c] 47) = W2 at *
      replace bx0 := keep bx0
      replace bx1 := keep bx1
      replace bx2 := keep bx2
      replace bx3 := keep bx3
      have hbel : Below W2.heap.size W2 W2 := Below.refl _ _
      skip
      have HW := Lib.hid hw
      go_wp2
      go_loopg [3, 19] k (fun g2 fd j wr => ∃ m : Nat, m + g2 = k ∧ fd = .bool false ∧ j = .int .i64 m ∧ Hid (hasId (L.take m) x.id = false) ∧ Below W2.heap.size W2 wr)
      case atStart => exact ⟨0, by omega, rfl, rfl, Lib.hid rfl, hbel⟩
      case round =>
        obtain ⟨m, hmg, rfl, rfl, HI, hb2⟩ := hrel
        clear hbel hw
        have hbel := hb2
        cases gk with
        | zero =>
          obtain rfl : m = k := by omega
          have hd2 : decide ((m : Int) < (m : Int)) = false := decide_eq_false (by omega)
          go_wp2
          go_roundg g
          case measure => omega
          case rel => exact ⟨m + 1, by omega, rfl, by push_cast; rfl, Lib.hid (by rw [List.range_succ, List.any_append, HT.out]; simp [twinAt, idAt_of HX.out, HI.out]), belStep HW.out hb2⟩
        | succ g2 =>
          have hlt2 : m < L.length := by omega
          have hmk : m < k := by omega
          obtain ⟨y, hy⟩ : ∃ y, L[m]? = some y := ⟨L[m], List.getElem?_eq_getElem hlt2⟩
          obtain ⟨be, oe, ee, _, hce⟩ := (HR.out.later (belStep HW.out hb2)).elem UsgV.cells_len (by omega) hy
          simp only [Option.some.injEq, Addr.mk.injEq, and_true] at ee
          obtain ⟨rfl, rfl⟩ := ee
          have e0 := keep (hce 0 _ rfl)
          have e1 := keep (hce 1 _ rfl)
          have e2 := keep (hce 2 _ rfl)
          have e3 := keep (hce 3 _ rfl)
          rw [Nat.add_zero] at e0
          have hd2 : decide ((m : Int) < (k : Int)) = true := decide_eq_true (by omega)
          have HN := Lib.hid (hasId_next (s := x.id) hy)
          have HY := Lib.hid hy
          clear hy hce
          have hw := HW.out
          have HB3 := Lib.hid hb2
          clear hb2
          replace c0 := keepOnP c0 hbel
          replace c1 := keepOnP c1 hbel
          replace c2 := keepOnP c2 hbel
          replace c3 := keepOnP c3 hbel
          replace bx0 := keepOnP bx0 hbel
          replace bx1 := keepOnP bx1 hbel
          replace bx2 := keepOnP bx2 hbel
          replace bx3 := keepOnP bx3 hbel
          replace hw := belStep hw hbel
          clear hbel
          generalize wr = W3 at *
          have hbel : Below W3.heap.size W3 W3 := Below.refl _ _
          have hbel : Below W3.heap.size W3 W3 := Below.refl _ _
          go_upto_region 8 with fail
          have HB34 := Lib.hid (belAlloc (Below.refl W3.heap.size W3) (.cells #[.string y.id, .float .f64 y.a, .float .f64 y.b, .float .f64 y.c] 47))
          have qx0 : (W3.alloc (.cells #[.string y.id, .float .f64 y.a, .float .f64 y.b, .float .f64 y.c] 47)).cell? ⟨W3.heap.size, 0, none⟩ = some (.string y.id) := by first | (simp; done) | (rw [World.cell?_alloc_at _ _ _ _ (by simp)]; rfl) | (rw [World.cell?_alloc_past _ _ _ (by simp <;> omega), World.cell?_alloc_at _ _ _ _ (by simp)]; rfl) | (rw [World.cell?_alloc_past _ _ _ (by simp <;> omega), World.cell?_alloc_past _ _ _ (by simp <;> omega), World.cell?_alloc_at _ _ _ _ (by simp)]; rfl)
          have qx1 : (W3.alloc (.cells #[.string y.id, .float .f64 y.a, .float .f64 y.b, .float .f64 y.c] 47)).cell? ⟨W3.heap.size, 1, none⟩ = some (.float .f64 y.a) := by first | (simp; done) | (rw [World.cell?_alloc_at _ _ _ _ (by simp)]; rfl) | (rw [World.cell?_alloc_past _ _ _ (by simp <;> omega), World.cell?_alloc_at _ _ _ _ (by simp)]; rfl) | (rw [World.cell?_alloc_past _ _ _ (by simp <;> omega), World.cell?_alloc_past _ _ _ (by simp <;> omega), World.cell?_alloc_at _ _ _ _ (by simp)]; rfl)
          have qx2 : (W3.alloc (.cells #[.string y.id, .float .f64 y.a, .float .f64 y.b, .float .f64 y.c] 47)).cell? ⟨W3.heap.size, 2, none⟩ = some (.float .f64 y.b) := by first | (simp; done) | (rw [World.cell?_alloc_at _ _ _ _ (by simp)]; rfl) | (rw [World.cell?_alloc_past _ _ _ (by simp <;> omega), World.cell?_alloc_at _ _ _ _ (by simp)]; rfl) | (rw [World.cell?_alloc_past _ _ _ (by simp <;> omega), World.cell?_alloc_past _ _ _ (by simp <;> omega), World.cell?_alloc_at _ _ _ _ (by simp)]; rfl)
          have qx3 : (W3.alloc (.cells #[.string y.id, .float .f64 y.a, .float .f64 y.b, .float .f64 y.c] 47)).cell? ⟨W3.heap.size, 3, none⟩ = some (.float .f64 y.c) := by first | (simp; done) | (rw [World.cell?_alloc_at _ _ _ _ (by simp)]; rfl) | (rw [World.cell?_alloc_past _ _ _ (by simp <;> omega), World.cell?_alloc_at _ _ _ _ (by simp)]; rfl) | (rw [World.cell?_alloc_past _ _ _ (by simp <;> omega), World.cell?_alloc_past _ _ _ (by simp <;> omega), World.cell?_alloc_at _ _ _ _ (by simp)]; rfl)
          have hb2 := (by repeat (first | exact hbel | refine belAlloc ?_ _ | refine belDrew ?_ | refine belSet ?_ _ _ (by simp)) : Below W3.heap.size W3 (W3.alloc (.cells #[.string y.id, .float .f64 y.a, .float .f64 y.b, .float .f64 y.c] 47)))
          replace c0 := keepOnP c0 hb2
          replace c1 := keepOnP c1 hb2
          replace c2 := keepOnP c2 hb2
          replace c3 := keepOnP c3 hb2
          replace bx0 := keepOnP bx0 hb2
          replace bx1 := keepOnP bx1 hb2
          replace bx2 := keepOnP bx2 hb2
          replace bx3 := keepOnP bx3 hb2
          replace e0 := keepOnP e0 hb2
          replace e1 := keepOnP e1 hb2
          replace e2 := keepOnP e2 hb2
          replace e3 := keepOnP e3 hb2
          replace hw := belStep hw hb2
          clear hb2 hbel
          generalize W3.alloc (.cells #[.string y.id, .float .f64 y.a, .float .f64 y.b, .float .f64 y.c] 47) = W4 at *
          replace qx0 := keep qx0
          replace qx1 := keep qx1
          replace qx2 := keep qx2
          replace qx3 := keep qx3
          have hbel : Below W4.heap.size W4 W4 := Below.refl _ _
          skip
          have HB4 := Lib.hid (show Below W2.heap.size W2 W4 from belStep HB3.out HB34.out)
          cases hq : (x.id.toList == y.id.toList) with
          | false =>
            go_wp2
            go_roundg g2
            case measure => omega
            case rel => exact ⟨m + 1, by omega, rfl, by push_cast; rfl, Lib.hid (by rw [HN.out, HI.out, hq]; rfl), HB4.out⟩
          | true =>
            have HTW := Lib.hid (show twiceB L = true from any_range.2 ⟨k, hlt, by unfold twinAt; rw [idAt_of HX.out]; unfold hasId; rw [List.any_eq_true]; exact ⟨y, List.mem_take_iff_getElem.2 ⟨m, by omega, (List.getElem?_eq_some_iff.1 HY.out).2⟩, hq⟩⟩)
            go_wp2
            try rw [Exit.noGoto_ret]
            go_ret
            exact ⟨ret_bool HTW.out.symm, hw⟩
end Go.Proofs.Ytcgpmihjodolmaa
