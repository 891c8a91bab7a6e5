
/- Stage 10: the disk at a law: plain laws. -/
import Derived.Test.YtcbblgeleboggaaDk7
import Derived.Shelf.Bytes.SlSmallAll
import Derived.Laws.BytesArg
namespace Go.Proofs.Ytcbblgeleboggaa
open Go.RowKit Go.Sort Go.Maps Go.WideMaps Go.Shelf
set_option linter.unusedVariables false
set_option linter.unusedSectionVars false
set_option linter.unusedSimpArgs false
/-- 'string(b)'. -/
theorem conv_strD {w : World} {a : Option Addr} {len cap : Nat} {l : List Int} (h : Ints .u8 w a len cap l) : (convert 29 9 (.slice a len cap)).run Try.prog w = .ok (.string (strOfNums l)) w := by
  have hb := h.bounds
  by_cases h0 : len = 0
  · subst h0
    obtain rfl : l = [] := List.eq_nil_of_length_eq_zero hb.1
    exact run_convert_bytes_zero w _ _ Try.underlying29 Try.underlying5 a cap _ Try.underlying9
  · obtain ⟨b, off, rfl, _, hc⟩ := h.opened (by omega)
    exact run_convert_bytes_arg (P := Try.prog) w _ _ Try.underlying29 Try.underlying5 b off len cap l hb.1 hc _ Try.underlying9
theorem ints_nil (w : World) (k : IntKind) : Ints k w none 0 0 [] := ⟨⟨rfl, Nat.le_refl _, by unfold maxLen; omega, fun _ => ⟨rfl, rfl⟩, .inl rfl⟩, fun n hn => by cases hn⟩
/-- A disk of a law's own: it lies behind B. -/
def DKv (B : Nat) (w : World) (M : Nat) (X : List Nat) (d : DiskV) : Prop := ∃ F, DAt w M X F d ∧ ∀ b ∈ F, B ≤ b
theorem DKv.later {B : Nat} {u w : World} {M : Nat} {X : List Nat} {d : DiskV} (h : DKv B u M X d) (hb : Below u.heap.size u w) : DKv B w M X d := by
  obtain ⟨F, h1, h2⟩ := h
  exact ⟨F, h1.later hb, h2⟩
/-- A call that left the blocks X alone. -/
def Free (X : List Nat) (u w : World) : Prop := ∃ F, Apart F u w ∧ ∀ b ∈ X, b ∉ F
theorem DKv.more {B : Nat} {u : World} {M : Nat} {X Y : List Nat} {d : DiskV} (h : DKv B u M X d) (hY : ∀ b ∈ Y, b ∈ X ∨ u.heap.size ≤ b) : DKv B u M Y d := by
  obtain ⟨F, h1, h2⟩ := h
  exact ⟨F, h1.more hY, h2⟩
theorem own_blkD {w : World} {B k n c : Nat} {E : TypeId} {a : Option Addr} {cs : List Value} (h : OwnR w B E k (.slice a n c) n cs) {y : Addr} (e : a = some y) : (Value.slice a n c).ownBlock = some y.block := by
  subst e
  rcases own_open h with ⟨e, _, _⟩ | ⟨g, c2, C, e, _⟩
  · cases e
  · simp only [Value.slice.injEq, Option.some.injEq, true_and] at e
    obtain ⟨rfl, _⟩ := e
    rfl
theorem Free.own {u w : World} {X : List Nat} {B k n c : Nat} {E : TypeId} {a : Option Addr} {cs : List Value} (h : Free X u w) (ho : OwnR u B E k (.slice a n c) n cs) (hX : ∀ b, (Value.slice a n c).ownBlock = some b → b ∈ X) : OwnR w B E k (.slice a n c) n cs := by
  obtain ⟨F, hA, hF⟩ := h
  exact own_same ho (fun g e => hA.block g (own_type ho e).2.1 (hF g (hX g e)))
theorem dto_dk {B : Nat} {u w : World} {M : Nat} {X F : List Nat} {d d0 : DiskV} (h0 : DAt u M X F d0) (h : DTo u w M X F d) (hF : ∀ b ∈ F, B ≤ b) (hB : B ≤ u.heap.size) : DKv B w M X d ∧ Below B u w ∧ Free X u w := by
  obtain ⟨G, h1, h2, h3⟩ := h
  obtain ⟨p, v, T, e, _, _, _, _, _, h7⟩ := h0
  exact ⟨⟨G, h1, fun b hb => (h3 b hb).elim (hF b) (fun z => Nat.le_trans hB z)⟩, h2.below hF hB, F, h2, h7⟩
section
variable (B : Nat) (M : Nat) (X : List Nat) (d : DiskV) (w : World)
theorem dl_New (hX : ∀ b ∈ X, b < w.heap.size) (hB : B ≤ w.heap.size) : Calls Try.prog 10 #[] w fun e w' => ∃ M, e = .returned (.pointer (some ⟨M, 0, none⟩)) ∧ DKv B w' M X ⟨[], [], 0⟩ ∧ Below B w w' := by
  refine (dk_New X w hX).mono ?_
  rintro e w' ⟨rfl, h1, h2⟩
  exact ⟨_, rfl, ⟨_, h1, fun b hb => by have := (h1.lt b hb).1; omega⟩, h2.mono hB⟩
variable (h : DKv B w M X d) (hX : ∀ b ∈ X, b < w.heap.size) (hB : B ≤ w.heap.size) (hc : d.cap + d.done.length ≤ 100000)
include h hX hB hc
theorem dl_Do (o : OpV) (hZ : Ints .u8 w o.ba o.Z.length o.bc o.Z) (hl : o.Z.length ≤ 1000000) (hs : o.small) : Calls Try.prog 21 #[.pointer (some ⟨M, 0, none⟩), .agg #[.int .i64 o.kind, .string o.name, .string o.dst, .slice o.ba o.Z.length o.bc]] w fun e w' => e = .returned (.int .i64 (doE o.m)) ∧ DKv B w' M X (doW d o.m) ∧ Below B w w' ∧ Free X w w' := by
  obtain ⟨F, hd, hF⟩ := h
  refine (dk_Do M X F d w hd hX hc o hZ hl hs).mono ?_
  rintro e w' ⟨rfl, hq⟩
  exact ⟨rfl, dto_dk hd hq hF hB⟩
theorem dl_Sync : Calls Try.prog 22 #[.pointer (some ⟨M, 0, none⟩)] w fun e w' => e = .returned (.tuple #[]) ∧ DKv B w' M X (syncW d) ∧ Below B w w' ∧ Free X w w' := by
  obtain ⟨F, hd, hF⟩ := h
  refine (dk_Sync M X F d w hd hX hc).mono ?_
  rintro e w' ⟨rfl, hq⟩
  exact ⟨rfl, dto_dk hd hq hF hB⟩
theorem dl_Crash (ka : Option Addr) (kn kc : Nat) (K : List Int) (hK : Ints .i64 w ka kn kc K) : Calls Try.prog 20 #[.pointer (some ⟨M, 0, none⟩), .slice ka kn kc] w fun e w' => e = .returned (.tuple #[]) ∧ DKv B w' M X (crashW d K) ∧ Below B w w' ∧ Free X w w' := by
  obtain ⟨F, hd, hF⟩ := h
  refine (dk_Crash M X F d w hd hX hc ka kn kc K hK).mono ?_
  rintro e w' ⟨rfl, hq⟩
  exact ⟨rfl, dto_dk hd hq hF hB⟩
omit hX hc in
theorem dl_Open : Calls Try.prog 17 #[.pointer (some ⟨M, 0, none⟩)] w fun e w' => e = .returned (.int .i64 (d.done.length : Int)) ∧ w' = w := by
  obtain ⟨F, hd, hF⟩ := h
  exact dk_Open M X F d w hd
omit hX in
theorem dl_Read (s : ByteArray) (hs : s.size ≤ maxLen) : Calls Try.prog 14 #[.pointer (some ⟨M, 0, none⟩), .string s] w fun e w' => ∃ a c, e = .returned (.tuple #[.slice a ((getF d.look s).getD []).length c, .int .i64 (rdE (getF d.look s))]) ∧ Ints .u8 w' a ((getF d.look s).getD []).length c ((getF d.look s).getD []) ∧ ((getF d.look s).getD []).length ≤ 1000000 ∧ OwnI w' w.heap.size 5 .u8 (.slice a ((getF d.look s).getD []).length c) ((getF d.look s).getD []) ∧ DKv B w' M X d ∧ Below w.heap.size w w' := by
  obtain ⟨F, hd, hF⟩ := h
  refine (dk_Read M X F d w hd hc s hs).mono ?_
  rintro e w' ⟨v, rfl, h1, h2, h3, h4⟩
  obtain ⟨a, c, rfl, hi⟩ := ints_of_own h1 h3
  exact ⟨a, c, rfl, hi, h2, h1, ⟨F, hd.later h4, hF⟩, h4⟩
omit hX in
theorem dl_Names (hs : SortedF d.files) : Calls Try.prog 18 #[.pointer (some ⟨M, 0, none⟩)] w fun e w' => ∃ v, e = .returned v ∧ OwnR w' w.heap.size 9 1 v d.look.length (d.look.map (fun f => .string f.name)) ∧ DKv B w' M X d ∧ Below w.heap.size w w' := by
  obtain ⟨F, hd, hF⟩ := h
  refine (dk_Names M X F d w hd hc hs).mono ?_
  rintro e w' ⟨v, rfl, h1, h4⟩
  exact ⟨v, rfl, h1, ⟨F, hd.later h4, hF⟩, h4⟩
end
end Go.Proofs.Ytcbblgeleboggaa
