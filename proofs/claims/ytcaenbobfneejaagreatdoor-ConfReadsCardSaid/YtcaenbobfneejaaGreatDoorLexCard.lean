
/- What a tied row's condition, and the world's shape, give stage 4: the library's longest text of a plain search. -/
import Derived.Test.YtcaenbobfneejaaGreatDoorLexAw
import Derived.Test.YtcaenbobfneejaaGreatDoorLexTM
import Derived.Test.YtcaenbobfneejaaGreatDoorTie
import Derived.Test.YtcaenbobfneejaaGreatDoorCards
import Derived.SevenTiedAt
import Derived.LaidMore
import Derived.Lay
import Derived.MakeChecks
import Derived.Stop.Joined
import Derived.HandedShaped
import Derived.Shelf.Vars
namespace Go.Proofs.YtcaenbobfneejaaGreatDoor
open Go.RowKit Go.Shelf
set_option linter.unusedVariables false
section
variable {H : Type} {enc : TypeId × Value → H}
theorem returnsInHanded_of_change_and_shapedL {a : Assume} {C : Checked} {os : Os} {f : FuncId} {fn : Func} {s : ChangeSpec} {conds : List PathCond} {apart fresh handsOn again : Bool} {X : World → Array Value → Prop}
    (hX : ∀ (w w' : World) (args : Array Value), w.heap = w'.heap → X w args → X w' args)
    (own : ownKnob C.prog.godebug = none) (started : os.Started) (noInit : C.prog.inits.idxOf? f = none) (hfn : C.prog.funcs[f]? = some fn)
    (witness : ∃ (w : World) (tape : Tape) (i : Input), w.os = os ∧ (w.forCall tape i).Shaped C.prog ∧ i.vars = [] ∧ Input.okWide C.prog (w.forCall tape i) .any w.heap.size f i ∧
      ((s.pre enc C.prog fn conds apart (w.forCall tape i).memory i.args ∧ X (w.forCall tape i).memory i.args) ∧ sizedMet enc C.prog fn (OpenSpec.ofChange s) apart (w.forCall tape i).memory i.args) ∧ a.holds C.prog (lone (Frame.enter C.prog f i.args .normal) [] (w.forCall tape i)))
    (contract : ∀ (W : World) (base : Nat) (args : Array Value) (ds gs : List (DataW H)) (before : List MemPlace),
      (∀ (j : Nat) t v, fn.params[j]? = some t → args[j]? = some v → Value.okWide C.prog W .any base t v) →
      DataW.Whole enc C.prog fn.params.toList s.vars apart W args.toList ds gs before →
      X W args → W.ShapedOpen C.prog →
      Calls C.prog f args W fun e W' => ∃ v, e = .returned v ∧ s.post enc C.prog fn apart fresh handsOn again W args v W') :
    ReturnsInHanded a C os f .any (fun w args => (s.pre enc C.prog fn conds apart w args ∧ X w args) ∧ sizedMet enc C.prog fn (OpenSpec.ofChange s) apart w args) (s.post enc C.prog fn apart fresh handsOn again) := by
  refine returnsInHanded_of_calls own started noInit witness ?_
  intro w tape i _ hsh _ hok hpre hholds
  obtain ⟨_, _, _, fn', hfn', _, _, _, _, hval⟩ := hok
  have e : fn' = fn := Option.some.inj (hfn'.symm.trans hfn)
  subst e
  obtain ⟨⟨⟨ds, gs, before, hw, hc⟩, hx⟩, hz⟩ := hpre
  have hw' := DataW.Whole.of_heap (w' := w.forCall tape i) (by rfl) hw
  refine (contract (w.forCall tape i) w.heap.size i.args ds gs before hval hw' (hX _ _ _ (by rfl) hx) hsh).mono fun e W' ⟨v, he, hp⟩ => ?_
  subst he
  exact ChangeSpec.post_blind hp
end
/-- The library's variable is laid. -/
def EnvL (W : World) : Prop := ∃ m : Int, W.cell? ⟨0, 0, none⟩ = some (.int .i64 m)
theorem env_ofL {L : List (String × DataW Unit)} {W : World} (_ : laidMet Tryz.prog L W) (hs : W.ShapedOpen Tryz.prog) : EnvL W :=
  cell_of_shapedOpen_int (g := 0) (t := 3) (zero := #[.int .i64 0]) (k := .i64) hs (of_decide_eq_true (by kernel_rfl)) (by kernel_rfl) rfl (by kernel_rfl) (by kernel_rfl) Tryz.underlying3
theorem lines_of (a : Option Addr) (len cap : Nat) (L : List UInt8) (m : Int) (w : World) (hI : Ints .u8 w a len cap (numsL L)) (hm : w.cell? ⟨0, 0, none⟩ = some (.int .i64 m)) (hr : readB L = true) :
    Calls Tryz.prog 12 #[.slice a len cap] w fun e w' => (∃ b n vs, e = .returned (.tuple #[.slice b (fieldsF L).length n, .int .i64 0]) ∧ RowsF w' w.heap.size (.slice b (fieldsF L).length n) (fieldsF L) vs) ∧ Below w.heap.size w w' := by
  refine (lex_Lines a len cap L m w hI hm).mono ?_
  rintro e w' ⟨h | h, hb⟩
  · exact ⟨h.2, hb⟩
  · rw [hr] at h; cases h.1
theorem lines_no (a : Option Addr) (len cap : Nat) (L : List UInt8) (m : Int) (w : World) (hI : Ints .u8 w a len cap (numsL L)) (hm : w.cell? ⟨0, 0, none⟩ = some (.int .i64 m)) (hr : readB L = false) :
    Calls Tryz.prog 12 #[.slice a len cap] w fun e w' => e = .returned (.tuple #[.slice none 0 0, .int .i64 2]) ∧ Below w.heap.size w w' := by
  refine (lex_Lines a len cap L m w hI hm).mono ?_
  rintro e w' ⟨h | h, hb⟩
  · rw [hr] at h; cases h.1
  · exact ⟨h.2, hb⟩
theorem bA_app (x y : List UInt8) : bA x ++ bA y = bA (x ++ y) := by
  refine ext_data ?_
  rw [ByteArray.data_append, Array.toList_append, bA_data, bA_data, bA_data]
end Go.Proofs.YtcaenbobfneejaaGreatDoor
