
/- slices.Insert and slices.Delete at BoolW. -/
import Derived.Test.YtampkolkbjmmkaaInsK
import Derived.Test.YtampkolkbjmmkaaWd0
import Derived.Deep.LoopGhost
namespace Go.Proofs.Ytampkolkbjmmkaa
open Go.RowKit
set_option linter.unusedVariables false
set_option linter.unusedSimpArgs false
theorem info_booI : (Try.prog.info? 4).map (fun i => (i.zero, i.size, i.bytes)) = some (some (.bool false), 1, 1) := by kernel_rfl
theorem size_booI : (Try.prog.info? 4).map (·.size) = some 1 := by kernel_rfl
theorem one_booI (x : BoolW) : ∀ u ∈ x.cells, u.oneCell' = true := by
  intro u hu
  simp only [BoolW.cells, List.mem_cons, List.not_mem_nil, or_false] at hu
  subst hu; rfl
theorem ones_booI (L : List BoolW) : ∀ u ∈ L.flatMap BoolW.cells, u.oneCell' = true := fun u hu => by obtain ⟨x, _, hx⟩ := List.mem_flatMap.1 hu; exact one_booI x u hx
theorem len_booI (x : BoolW) : x.cells.length = 1 := rfl
set_option maxRecDepth 100000 in
set_option maxHeartbeats 16000000 in
theorem cln_allBoo (a : Option Addr) (n c : Nat) (L : List BoolW) (w : World) (hl : L.length = n) (hR : Row w a n c 1 (L.flatMap BoolW.cells)) (hn : n ≤ 100000) :
    Calls Try.prog 85 #[.slice a n c] w fun e w' => ∃ v', e = .returned v' ∧ OwnR w' w.heap.size 4 1 v' n (L.flatMap BoolW.cells) ∧ Below w.heap.size w w' := by
  cases a with
  | none =>
    obtain ⟨rfl, rfl⟩ := hR.2.2.2.1 rfl
    obtain rfl : L = [] := List.eq_nil_of_length_eq_zero hl
    have hnil := Lib.run_eql_slice_nil w 40 4 none 0 0 0 0 Try.underlying40
    clear hR
    go_enter Try.func85, Try.ntmps85
    go_wp2
    go_ret
    exact ⟨_, rfl, OwnR.nil _ _ _ _, Below.refl _ _⟩
  | some ad =>
    have HL := Lib.hid (hR.later (belAlloc (Below.refl _ _) (.cells #[] 4)))
    have HO := Lib.hid (own_empty w 4 1)
    have HONES := Lib.hid (ones_booI L)
    clear hR
    have hnil := Lib.run_eql_slice_nil w 40 4 (some ad) n c 0 0 Try.underlying40
    go_enter Try.func85, Try.ntmps85
    go_wp2_with (at_builtin; refine wpList_app_row rfl _ _ 40 rfl w.heap.size 4 _ 1 1 Try.underlying40 info_booI rfl (by decide) _ 0 [] rfl HO.out _ n c _ rfl HL.out HONES.out ?c1 ?c2 ?c3 ?_)
    case c1 => simp only [maxLen]; omega
    case c2 => omega
    case c3 => simp
    intro v' w2 ho' hb' hg'
    go_wp2
    go_ret
    exact ⟨_, rfl, by simpa using ho', (belAlloc (Below.refl _ _) _ : Below w.heap.size w (w.alloc _)).trans hb'⟩
end Go.Proofs.Ytampkolkbjmmkaa
