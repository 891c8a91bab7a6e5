
/- bilgeref04.Same of the same fields; bilgeref04.Readable: contracts. -/
import Derived.Test.YtlgmgmnhmagolaaDoorLexCard
namespace Go.Proofs.YtlgmgmnhmagolaaDoor
open Go.RowKit
set_option linter.unusedVariables false
set_option linter.unusedSimpArgs false
set_option maxRecDepth 100000 in
set_option maxHeartbeats 16000000 in
theorem rlex_Same (B C : Nat) (a b : Option Addr) (ca cb : Nat) (LL : List (List FldV)) (va vb : List Value) (w : World) (hA : RowsF w B (.slice a LL.length ca) LL va) (hB : RowsF w C (.slice b LL.length cb) LL vb) :
    Calls Tryd.prog 12 #[.slice a LL.length ca, .slice b LL.length cb] w fun e w' => e = .returned (.bool true) ∧ Below w.heap.size w w' := by
  have HA := Lib.hid hA
  have HB := Lib.hid hB
  have hlen : LL.length ≤ 9223372036854775807 := by
    rcases own_shape hA.out with ⟨_, e⟩ | ⟨g, c, e, h1, h2, h3, h4⟩ <;> omega
  clear hA hB
  obtain ⟨nl, hnl⟩ : ∃ x, LL.length = x := ⟨_, rfl⟩
  rw [hnl] at hlen ⊢
  have HNL := Lib.hid hnl
  clear hnl
  go_enter Tryd.func12, Tryd.ntmps12
  go_wp2
  have hb0 := Below.refl w.heap.size w
  go_loopg [5] nl (fun g iv wr => ∃ i : Nat, i + g = nl ∧ iv = .int .i64 i ∧ Below w.heap.size w wr)
  case atStart => exact ⟨0, by omega, rfl, hb0⟩
  case round =>
    obtain ⟨i, hig, rfl, hbw⟩ := hrel
    clear hb0
    have HB5 := Lib.hid hbw
    clear hbw
    cases gk with
    | zero =>
      obtain rfl : i = nl := by omega
      have hd : decide ((i : Int) < (i : Int)) = false := decide_eq_false (by omega)
      go_wp2
      go_ret
      exact ⟨rfl, HB5.out⟩
    | succ g =>
      have hin : i < nl := by omega
      have hd : decide ((i : Int) < (nl : Int)) = true := decide_eq_true (by omega)
      have hii : (i : Int) < (nl : Int) := by omega
      have hi0 : (0 : Int) ≤ (i : Int) := by omega
      obtain ⟨F, hF⟩ : ∃ F, LL[i]? = some F := ⟨LL[i]'(by rw [HNL.out]; exact hin), List.getElem?_eq_getElem _⟩
      obtain ⟨lg, lc, ea, _, _, _, _⟩ := HA.out.open (by rw [HNL.out]; omega)
      obtain rfl : a = some ⟨lg, 0, none⟩ := by simpa using (Value.slice.inj ea).1
      clear ea
      obtain ⟨mg, mc, ea, _, _, _, _⟩ := HB.out.open (by rw [HNL.out]; omega)
      obtain rfl : b = some ⟨mg, 0, none⟩ := by simpa using (Value.slice.inj ea).1
      clear ea
      obtain ⟨ra, rn, hrl, hol⟩ := rows_at (HA.out.later HB5.out) hF
      obtain ⟨sa, sn, hrm2, hom⟩ := rows_at (HB.out.later HB5.out) hF
      have HOL := Lib.hid hol
      have HOM := Lib.hid hom
      obtain ⟨nf, hnf⟩ : ∃ x, F.length = x := ⟨_, rfl⟩
      have hFl : nf ≤ 9223372036854775807 := by rcases own_shape hol with ⟨_, e⟩ | ⟨g, c, e, h1, h2, h3, h4⟩ <;> omega
      rw [hnf] at hrl hrm2
      have HNF := Lib.hid hnf
      have x := keep hrl
      have y := keep hrm2
      clear hF hol hom hrl hrm2 hnf
      have hbel : Below wr.heap.size wr wr := Below.refl _ _
      go_wp2
      have kk := fun d os => belStep hbel (below_regrown _ d os)
      refine wp_region_quiet_below (by kernel_rfl) (by kernel_rfl) ?_
      repeat ((with_reducible refine wpQuiet_step (fun K hK => ?_)); go_simp; (try (rw [if_neg]; rotate_left; · decide)); first | ((with_reducible refine hK _ ?_); clear hK K) | (apply Exists.intro; refine ⟨fun _ => ?_, hK _ ?_⟩; (fail); clear hK K))
      refine wpQuiet_nil (fun w1 hw1 => ?_)
      replace hbel := belStep hbel (bel_of_class hw1)
      clear hw1 kk
      go_wp2
      have x2 := keepOn x hbel
      have y2 := keepOn y hbel
      have HX2 := Lib.hid hbel
      clear x y hbel
      generalize w1 = W6 at *
      have hb0 := Below.refl W6.heap.size W6
      go_loopg [6] nf (fun g2 kv wr => ∃ k : Nat, k + g2 = nf ∧ kv = .int .i64 k ∧ Below W6.heap.size W6 wr)
      case atStart => exact ⟨0, by omega, rfl, hb0⟩
      case round =>
        obtain ⟨k, hkg, rfl, hbw⟩ := hrel
        clear hb0
        have HB7 := Lib.hid hbw
        have x := keepOn x2 hbw
        have y := keepOn y2 hbw
        clear hbw
        have hbel : Below wr.heap.size wr wr := Below.refl _ _
        cases gk with
        | zero =>
          obtain rfl : k = nf := by omega
          have hdk : decide ((k : Int) < (k : Int)) = false := decide_eq_false (by omega)
          go_wp2
          go_roundg g
          case rel => exact ⟨i + 1, by omega, by push_cast; rfl, belStep (belStep HB5.out HX2.out) HB7.out⟩
          case measure => omega
        | succ g2 =>
          have hkn : k < nf := by omega
          have hdk : decide ((k : Int) < (nf : Int)) = true := decide_eq_true (by omega)
          have hki : (k : Int) < (nf : Int) := by omega
          have hk0 : (0 : Int) ≤ (k : Int) := by omega
          obtain ⟨f, hf⟩ : ∃ f, F[k]? = some f := ⟨F[k]'(by rw [HNF.out]; exact hkn), List.getElem?_eq_getElem _⟩
          obtain ⟨fg, rfl, _, _, _, f0, f1, f2⟩ := fld_at HOL.out hf
          obtain ⟨mg2, rfl, _, _, _, m0, m1, m2⟩ := fld_at HOM.out hf
          have q1 := fun u : World => eq_fld (bA f.text) (bA f.text) f.line f.line f.col f.col u
          simp only [beq_self_eq_true, Bool.and_self] at q1
          generalize bA f.text = tx at *
          generalize f.line = tl at *
          generalize f.col = tc at *
          have c0 := keepOn (keepOn (keep f0) HX2.out) HB7.out
          have c1 := keepOn (keepOn (keep f1) HX2.out) HB7.out
          have c2 := keepOn (keepOn (keep f2) HX2.out) HB7.out
          have d0 := keepOn (keepOn (keep m0) HX2.out) HB7.out
          have d1 := keepOn (keepOn (keep m1) HX2.out) HB7.out
          have d2 := keepOn (keepOn (keep m2) HX2.out) HB7.out
          clear f0 f1 f2 m0 m1 m2 hf
          go_wp2
          have kk := fun d os => belStep hbel (below_regrown _ d os)
          refine wp_region_quiet_below (by kernel_rfl) (by kernel_rfl) ?_
          repeat ((with_reducible refine wpQuiet_step (fun K hK => ?_)); go_simp; (try (rw [if_neg]; rotate_left; · decide)); first | ((with_reducible refine hK _ ?_); clear hK K) | (apply Exists.intro; refine ⟨fun _ => ?_, hK _ ?_⟩; (fail); clear hK K))
          refine wpQuiet_nil (fun w1 hw1 => ?_)
          replace hbel := belStep hbel (bel_of_class hw1)
          clear hw1 kk
          go_wp2
          go_roundg g2
          case rel => exact ⟨k + 1, by omega, by push_cast; rfl, belStep HB7.out hbel⟩
          case measure => omega
end Go.Proofs.YtlgmgmnhmagolaaDoor
