
/- LogKeeps holds for all its arguments. No conditions but that the library's variables lie as its own text lays them. -/
import Derived.Lay
import Derived.Test.YtekakalhknjdaaaDoorLgB
import Derived.Test.YtekakalhknjdaaaDoorThrCards
import Derived.Test.YtekakalhknjdaaaDoorLgH
import Derived.Test.YtekakalhknjdaaaDoorLgI
namespace Go.Proofs.YtekakalhknjdaaaDoor.logKeeps
open Go.ChangeShapes Go.WideShapes Go.ChangeAt Go.RowKit
open Go.ChangeMaps (open_string shut_string)
set_option linter.unusedVariables false
set_option linter.unusedSimpArgs false
theorem good_later {W u : World} {x : StepV} (h : x.good W) (hb : Below W.heap.size W u) : x.good u := ⟨h.1, h.2.later hb⟩
theorem lns_yes' {base : Nat} {L : List StepV} {R : List (List UInt8)} {e0 : Ending} {w' : World} (h : seqL (evsOf L) = some R) (hp : LnsP base L e0 w') : ∃ (a : Option Addr) (c : Nat), e0 = .returned (.tuple #[.slice a R.length c, .int .i64 0]) ∧ OwnR w' base 9 1 (.slice a R.length c) R.length (R.map strB) := by unfold LnsP at hp; rw [h] at hp; exact hp
theorem lns_no' {base : Nat} {L : List StepV} {e0 : Ending} {w' : World} (h : seqL (evsOf L) = none) (hp : LnsP base L e0 w') : e0 = .returned (.tuple #[.slice none 0 0, .int .i64 1]) := by unfold LnsP at hp; rw [h] at hp; exact hp
theorem lns_own {base : Nat} {L : List StepV} {e0 : Ending} {w' : World} (hp : LnsP base L e0 w') : ∃ (a : Option Addr) (n c : Nat) (er : Int) (R : List (List UInt8)), e0 = .returned (.tuple #[.slice a n c, .int .i64 er]) ∧ OwnR w' base 9 1 (.slice a n c) n (R.map strB) ∧ Hid (R.length = n) ∧ Hid ((er = 0 ∧ seqL (evsOf L) = some R) ∨ (er = 1 ∧ seqL (evsOf L) = none ∧ n = 0)) := by
  cases h : seqL (evsOf L) with
  | none => exact ⟨none, 0, 0, 1, [], lns_no' h hp, OwnR.nil _ _ _ _, Lib.hid rfl, Lib.hid (.inr ⟨rfl, rfl, rfl⟩)⟩
  | some R =>
    obtain ⟨a, c, h1, h2⟩ := lns_yes' h hp
    exact ⟨a, R.length, c, 0, R, h1, h2, Lib.hid rfl, Lib.hid (.inl ⟨rfl, rfl⟩)⟩
theorem strB_row (R : List (List UInt8)) : R.map strB = (R.map bA).map Value.string := by rw [List.map_map]; rfl
theorem own_shapeK {w : World} {B : Nat} {e : TypeId} {size : Nat} {v : Value} {n : Nat} {cs : List Value} (h : OwnR w B e size v n cs) :
    (v = .slice none 0 0 ∧ n = 0) ∨ ∃ g cap, v = .slice (some ⟨g, 0, none⟩) n cap ∧ B ≤ g ∧ g < w.heap.size ∧ n ≤ cap ∧ cap ≤ 9223372036854775807 := by
  obtain ⟨h1, h2⟩ := h
  rcases h2 with ⟨rfl, hn⟩ | ⟨g, cap, cur, rfl, hg, hh, hl, hm, hc, ht⟩
  · exact .inl ⟨rfl, hn⟩
  · exact .inr ⟨g, cap, rfl, hg, (Array.getElem?_eq_some_iff.1 hh).1, hl, by unfold maxLen at hm; omega⟩
theorem owns_atK {w : World} {B : Nat} {e : TypeId} {g n cap : Nat} {cs : List Value} (h : OwnR w B e 1 (.slice (some ⟨g, 0, none⟩) n cap) n cs) {i : Nat} (hi : i < n) : (∃ u, w.cell? ⟨g, i, none⟩ = some u) ∧ w.frozen? ⟨g, i, none⟩ = false := by
  have hn : cs.length = n := by have := h.1; omega
  refine ⟨⟨cs[i]'(by omega), ?_⟩, World.ownsRow.frozenAt h i⟩
  · rw [World.ownsRow.cellAt h i (by omega)]
    exact List.getElem?_eq_getElem (by omega)
theorem owns_setK {w : World} {B : Nat} {e : TypeId} {g n cap : Nat} {cs : List Value} (h : OwnR w B e 1 (.slice (some ⟨g, 0, none⟩) n cap) n cs) (i : Nat) (u : Value) : OwnR (w.setCell ⟨g, i, none⟩ u) B e 1 (.slice (some ⟨g, 0, none⟩) n cap) n (cs.set i u) :=
  (World.ownsRow.stored h i u).1
theorem own_grownK {w w' : World} {B C k j n m : Nat} {E F : TypeId} {v v' : Value} {cs ds : List Value} (h : OwnR w B E k v n cs) (h' : OwnR w C F j v' m ds) (hne : E ≠ F) (hg : w.grownBy w' v'.ownBlock) : OwnR w' B E k v n cs := by
  obtain ⟨h1, h2⟩ := h
  refine ⟨h1, h2.imp id ?_⟩
  rintro ⟨g, cap, cur, e1, e2, e3, e4⟩
  refine ⟨g, cap, cur, e1, e2, ?_, e4⟩
  have hn : v'.ownBlock ≠ some g := by
    intro e
    obtain ⟨_, q2⟩ := h'
    rcases q2 with ⟨rfl, _⟩ | ⟨g2, cap2, cur2, rfl, _, q3, _⟩
    · cases e
    · cases e
      rw [e3] at q3
      simp at q3
      exact hne q3.2
  exact (hg.block g (Array.getElem?_eq_some_iff.1 e3).1 (fun e => hn e.symm)).trans e3
theorem own_dropB {w : World} {B B' k n : Nat} {E : TypeId} {v : Value} {cs : List Value} (h : OwnR w B E k v n cs) (hb : B' ≤ B) : OwnR w B' E k v n cs := by
  obtain ⟨h1, h2⟩ := h
  refine ⟨h1, h2.imp id ?_⟩
  rintro ⟨g, cap, cur, e1, e2, e3⟩
  exact ⟨g, cap, cur, e1, Nat.le_trans hb e2, e3⟩
def sgS (x : StepV) : Int × List EvV := (x.round, x.E)
theorem evs_sg : ∀ {D L : List StepV}, D.map sgS = L.map sgS → evsOf D = evsOf L
  | [], [], _ => rfl
  | [], y :: L, h => by cases h
  | x :: D, [], h => by cases h
  | x :: D, y :: L, h => by
    simp only [List.map_cons, List.cons.injEq] at h
    have h2 := evs_sg h.2
    unfold evsOf at h2 ⊢
    rw [List.flatMap_cons, List.flatMap_cons, h2]
    have h3 := h.1
    unfold sgS at h3
    simp only [Prod.mk.injEq] at h3
    unfold evsS
    rw [h3.1, h3.2]
theorem sg_at {D L : List StepV} (h : D.map sgS = L.map sgS) {j : Nat} {x y : StepV} (hx : D[j]? = some x) (hy : L[j]? = some y) : x.E = y.E := by
  have h2 := congrArg (fun l => l[j]?) h
  simp only [List.getElem?_map, hx, hy, Option.map_some, Option.some.injEq] at h2
  unfold sgS at h2
  simp only [Prod.mk.injEq] at h2
  exact h2.2
/-- Steps of the law's own: their events lie in rows of its own. -/
def OwnS (u : World) (B : Nat) (D : List StepV) : Prop := ∀ x ∈ D, (InI x.err ∧ InI x.round ∧ x.E.length = x.en ∧ ∀ e ∈ x.E, e.ok) ∧ OwnR u B 23 4 (.slice x.ea x.en x.ec) x.en (x.E.flatMap EvV.cells)
theorem OwnS.good {u : World} {B : Nat} {D : List StepV} (h : OwnS u B D) : ∀ x ∈ D, x.good u := fun x hx => ⟨(h x hx).1, row_of_ownW (h x hx).2⟩
theorem OwnS.later {u v : World} {B : Nat} {D : List StepV} (h : OwnS u B D) (hb : Below u.heap.size u v) : OwnS v B D := fun x hx => ⟨(h x hx).1, OwnR.later (h x hx).2 hb⟩
theorem OwnS.grown {w w' : World} {B C m : Nat} {v' : Value} {ds : List Value} {D : List StepV} (h : OwnS w B D) (h' : OwnR w C 49 7 v' m ds) (hg : w.grownBy w' v'.ownBlock) : OwnS w' B D := fun x hx => ⟨(h x hx).1, own_grownK (h x hx).2 h' (by decide) hg⟩
theorem OwnS.snoc {u : World} {B : Nat} {D : List StepV} {x : StepV} (h : OwnS u B D) (h1 : InI x.err ∧ InI x.round ∧ x.E.length = x.en ∧ ∀ e ∈ x.E, e.ok) (h2 : OwnR u B 23 4 (.slice x.ea x.en x.ec) x.en (x.E.flatMap EvV.cells)) : OwnS u B (D ++ [x]) := by
  intro y hy
  rcases List.mem_append.1 hy with hy | hy
  · exact h y hy
  · simp at hy
    subst hy
    exact ⟨h1, h2⟩
theorem evs_ones (E : List EvV) : ∀ u ∈ E.flatMap EvV.cells, u.oneCell' = true := by
  intro u hu
  obtain ⟨y, _, hy⟩ := List.mem_flatMap.1 hu
  unfold EvV.cells at hy
  simp at hy
  rcases hy with rfl | rfl | rfl | rfl <;> rfl
theorem step_ones (x : StepV) : ∀ u ∈ x.cells, u.oneCell' = true := by
  intro u hu
  unfold StepV.cells at hu
  simp at hu
  rcases hu with rfl | rfl | rfl | rfl | rfl | rfl | rfl <;> rfl
theorem line_ne63 {r : Int} {e : EvV} {s : List UInt8} (h : lineE r e = some s) : s ≠ [63] := by
  obtain ⟨l, hf, _, _, hc⟩ := line_cuts h
  intro q
  rw [q] at hc
  have h1 : cutsL 32 [63] = [[63]] := by decide
  rw [h1] at hc
  have h2 : l = [] := by
    rw [List.cons.injEq] at hc
    exact hc.2.symm
  unfold fieldsE at hf
  split at hf
  · cases ht : tailE e with
    | none => rw [ht] at hf; cases hf
    | some t => rw [ht, h2] at hf; simp at hf
  · cases hf
theorem seq_ne63 : ∀ (A : List (Int × EvV)) (R : List (List UInt8)), seqL A = some R → ∀ s ∈ R, s ≠ [63]
  | [], R, h, s, hs => by rw [seqL] at h; cases h; cases hs
  | x :: A, R, h, s, hs => by
    rw [seqL] at h
    cases h1 : lineE x.1 x.2 with
    | none => rw [h1] at h; cases h
    | some q =>
      cases h2 : seqL A with
      | none => rw [h1, h2] at h; cases h
      | some r =>
        rw [h1, h2] at h
        cases h
        rcases List.mem_cons.1 hs with rfl | hs
        · exact line_ne63 h1
        · exact seq_ne63 A r h2 s hs
theorem str_cell {w : World} {a : Option Addr} {n cap : Nat} {G : List (List UInt8)} (h : Row w a n cap 1 (G.map strB)) {k : Nat} {s : List UInt8} (hs : G[k]? = some s) : ∃ b off, a = some ⟨b, off, none⟩ ∧ w.cell? ⟨b, off + k, none⟩ = some (strB s) := by
  obtain ⟨_, _, _, _, h5⟩ := h
  have hk : (G.map strB)[k]? = some (strB s) := by rw [List.getElem?_map, hs]; rfl
  rcases h5 with h5 | ⟨b, off, e, hc⟩
  · rw [h5] at hk; cases hk
  · refine ⟨b, off, e, ?_⟩
    rw [hc k (by rcases Nat.lt_or_ge k (G.map strB).length with q | q; exact q; rw [List.getElem?_eq_none q] at hk; cases hk), hk]
theorem infoEV : (Tryd.prog.info? 23).map (fun i => (i.zero, i.size, i.bytes)) = some (some (.agg #[.int .i64 0, .string ⟨#[]⟩, .int .i64 0, .int .i64 0]), 4, 40) := by kernel_rfl
theorem infoST : (Tryd.prog.info? 49).map (fun i => (i.zero, i.size, i.bytes)) = some (some (.agg #[.int .i64 0, .slice none 0 0, .int .i64 0, .slice none 0 0, .bool false, .bool false, .bool false]), 7, 72) := by kernel_rfl
theorem own_snocS {w : World} {B k : Nat} {v : Value} {D : List StepV} {x : StepV} (hk : D.length = k) (h : OwnR w B 49 7 v (k + 1) (D.flatMap StepV.cells ++ x.cells)) : OwnR w B 49 7 v (D ++ [x]).length ((D ++ [x]).flatMap StepV.cells) := by
  rw [List.length_append, List.flatMap_append, hk]
  simpa using h
set_option maxRecDepth 100000 in
set_option maxHeartbeats 64000000 in
theorem walk (a : Option Addr) (len cap : Nat) (L : List StepV) (W : World) (ht : Env W) (hl : L.length = len) (hG : ∀ x ∈ L, x.good W) (hR : Row W a len cap 7 (L.flatMap StepV.cells)) :
    Calls Tryd.prog 9 #[.slice a len cap] W fun e0 w' => e0 = .returned (.bool true) ∧ Below W.heap.size W w' := by
  have hbd_a : len ≤ cap ∧ cap ≤ 9223372036854775807 := by obtain ⟨_, h1, h2, _⟩ := hR; unfold maxLen at h2; exact ⟨h1, h2⟩
  obtain ⟨hbd1_a, hbd2_a⟩ := hbd_a
  have hbel : Below W.heap.size W W := Below.refl _ _
  have HE := Lib.hid (fun u (hu : Below W.heap.size W u) => ht.later hu)
  have HR := Lib.hid hR
  have HG := Lib.hid hG
  subst hl
  have CA := Lib.hid (fun u (hu : Below W.heap.size W u) => awake27 u (HE.out u hu))
  have CF := Lib.hid (fun u (hu : Below W.heap.size W u) => rf_Few27 a L.length cap L u rfl (fun x hx => good_later (HG.out x hx) hu) (HR.out.later hu))
  clear ht hR hG
  cases hf : fewS L with
  | false =>
    rw [hf] at CF
    clear hf
    go_enter Tryd.func9, Tryd.ntmps9
    go_wp2_with (first | (go_at_call 10; (with_reducible refine (CA.out _ hbel).mono ?_); rintro e9 w9 ⟨rfl, hb9⟩; replace hbel := belStep hbel hb9; clear hb9) | (go_at_call 16; (with_reducible refine (CF.out _ hbel).mono ?_); rintro e9 wf ⟨rfl, rfl⟩))
    go_ret
    exact ⟨rfl, hbel⟩
  | true =>
    have HT := Lib.hid (fewS_bd hf HG.out)
    have hl40 := HT.out.1
    rw [hf] at CF
    clear hf
    go_enter Tryd.func9, Tryd.ntmps9
    go_upto_region 3 with (first | (go_at_call 10; (with_reducible refine (CA.out _ hbel).mono ?_); rintro e9 w9 ⟨rfl, hb9⟩; replace hbel := belStep hbel hb9; clear hb9) | (go_at_call 16; (with_reducible refine (CF.out _ hbel).mono ?_); rintro e9 wf ⟨rfl, rfl⟩))
    clear CA CF
    have HB0 := Lib.hid hbel
    clear hbel
    go_wp2
    go_loopw [3, 4] (fun v iv wr => ∃ (k : Nat) (D : List StepV), k ≤ L.length ∧ iv = .int .i64 k ∧ OwnR wr W.heap.size 49 7 v D.length (D.flatMap StepV.cells) ∧ Hid (D.length = k) ∧ Hid (OwnS wr W.heap.size D) ∧ Hid (D.map sgS = (L.take k).map sgS) ∧ Hid (Below W.heap.size W wr)) (fun _ iv _ => L.length - (intOf iv).toNat)
    case atStart => exact ⟨0, [], Nat.zero_le _, rfl, OwnR.nil _ _ _ _, Lib.hid rfl, Lib.hid (fun x hx => by cases hx), Lib.hid rfl, HB0⟩
    case round =>
      clear HB0
      obtain ⟨k, D, hk, rfl, hO, HDL, HOS, HSG, HB⟩ := hrel
      by_cases hlt : k < L.length
      · obtain ⟨x, hx⟩ : ∃ x, L[k]? = some x := ⟨L[k], List.getElem?_eq_getElem hlt⟩
        obtain ⟨bc, oc, ec, _, hcc⟩ := (HR.out.later HB.out).elem StepV.cells_len (by omega) hx
        subst ec
        have c0 := keep (hcc 0 _ rfl)
        have c1 := keep (hcc 1 _ rfl)
        have c2 := keep (hcc 2 _ rfl)
        have c3 := keep (hcc 3 _ rfl)
        have c4 := keep (hcc 4 _ rfl)
        have c5 := keep (hcc 5 _ rfl)
        have c6 := keep (hcc 6 _ rfl)
        rw [Nat.add_zero] at c0
        have hd : decide ((k : Int) < (L.length : Int)) = true := decide_eq_true (by omega)
        have HX := Lib.hid hx
        obtain ⟨hx1, hyr⟩ := HG.out x (List.mem_of_getElem? hx)
        have HX1 := Lib.hid hx1
        have HYR := Lib.hid (hyr.later HB.out)
        have hxb := HT.out.2.1 x (List.mem_of_getElem? hx)
        have hbd_e : x.en ≤ x.ec ∧ x.ec ≤ 9223372036854775807 := by obtain ⟨_, h1, h2, _⟩ := hyr; unfold maxLen at h2; exact ⟨h1, h2⟩
        obtain ⟨hbd1_e, hbd2_e⟩ := hbd_e
        clear hx hcc hx1 hyr
        generalize hea : x.ea = ea at *
        have HEA := Lib.hid hea
        clear hea
        have HO := Lib.hid hO
        clear hO
        have hqW := HB.out.size
        have hbel : Below wr.heap.size wr wr := Below.refl _ _
        go_upto_region 8 with fail
        have hal := belAlloc (Below.refl wr.heap.size wr) (.cells #[.int .i64 x.err, .slice ea x.en x.ec, .int .i64 x.round, .slice x.pa x.pn x.pc, .bool x.o0, .bool x.o1, .bool x.o2] 49)
        have HXB := Lib.hid (Blk.new wr [.int .i64 x.err, .slice ea x.en x.ec, .int .i64 x.round, .slice x.pa x.pn x.pc, .bool x.o0, .bool x.o1, .bool x.o2] 49)
        have HBx := Lib.hid hal
        replace HYR := Lib.hid (HYR.out.later hal)
        have c1b := keepOnP c1 hal
        clear c0 c1 c2 c3 c4 c5 c6 hal hbel
        have hs0 : (wr.alloc (.cells #[.int .i64 x.err, .slice ea x.en x.ec, .int .i64 x.round, .slice x.pa x.pn x.pc, .bool x.o0, .bool x.o1, .bool x.o2] 49)).heap.size = wr.heap.size + 1 := by simp
        have HS1 := Lib.hid hs0
        clear hs0
        generalize wr.alloc (.cells #[.int .i64 x.err, .slice ea x.en x.ec, .int .i64 x.round, .slice x.pa x.pn x.pc, .bool x.o0, .bool x.o1, .bool x.o2] 49) = wx at *
        have hbel : Below wx.heap.size wx wx := Below.refl _ _
        have HE9 := Lib.hid (own_empty wx 23 4)
        have HYE := Lib.hid (HYR.out.later (belAlloc (Below.refl _ _) (.cells #[] 23)))
        go_wp2_with (at_builtin; (refine wpList_app_row rfl _ _ 43 rfl wx.heap.size 23 _ 4 40 Tryd.underlying43 infoEV rfl (by decide) _ 0 [] rfl HE9.out ea x.en x.ec (x.E.flatMap EvV.cells) rfl HYE.out (evs_ones _) ?c1 ?c2 ?c3 ?_))
        case c1 => simp only [maxLen]; omega
        case c2 => omega
        try (case c3 => simp)
        intro v7 w7 ho7 hb7 hg7
        try rw [Nat.zero_add, List.nil_append] at ho7
        have HB7 := Lib.hid ((belAlloc (Below.refl wx.heap.size wx) (.cells #[] 23)).trans hb7)
        obtain ⟨na, nc, rfl, _⟩ := rowR_of_own ho7
        have HX7 := Lib.hid (HXB.out.later HB7.out)
        have x0 := HX7.out.cell (j := 0) rfl
        have x1 := HX7.out.cell (j := 1) rfl
        have x2 := HX7.out.cell (j := 2) rfl
        have x3 := HX7.out.cell (j := 3) rfl
        have x4 := HX7.out.cell (j := 4) rfl
        have x5 := HX7.out.cell (j := 5) rfl
        have x6 := HX7.out.cell (j := 6) rfl
        have xf := HX7.out.frozen
        have HO7 := Lib.hid ho7
        clear ho7 hb7 hg7 HE9 HYE c1b hbel
        go_upto_region 9 with fail
        have HB8 := Lib.hid (belLow6 (HBx.out.trans (HB7.out.mono (by rw [HS1.out]; omega))) ⟨wr.heap.size, 1, none⟩ (.slice na x.en nc) (Nat.le_refl _))
        have HX8 := Lib.hid (HX7.out.set 1 (.slice na x.en nc))
        have HE8 := Lib.hid (own_dropB (OwnR.setCell HO7.out (a := ⟨wr.heap.size, 1, none⟩) (show wr.heap.size < wx.heap.size by rw [HS1.out]; omega) (.slice na x.en nc)) (show W.heap.size ≤ wx.heap.size by rw [HS1.out]; omega))
        clear x0 x1 x2 x3 x4 x5 x6 xf
        generalize w7.setCell ⟨wr.heap.size, 1, none⟩ (.slice na x.en nc) = w8 at *
        have HO8 := Lib.hid (OwnR.later HO.out HB8.out)
        have HOS8 := Lib.hid (HOS.out.later HB8.out)
        clear HO HOS HO7 HX7 HB7 HBx HXB HYR
        obtain ⟨z, hz⟩ : ∃ z : StepV, z = ⟨x.err, na, x.en, nc, x.round, x.pa, x.pn, x.pc, x.o0, x.o1, x.o2, x.E⟩ := ⟨_, rfl⟩
        have HX8b := Lib.hid (show Blk w8 wr.heap.size [.int .i64 x.err, .slice na x.en nc, .int .i64 x.round, .slice x.pa x.pn x.pc, .bool x.o0, .bool x.o1, .bool x.o2] 49 from HX8.out)
        have x0 := HX8b.out.cell (j := 0) rfl
        have x1 := HX8b.out.cell (j := 1) rfl
        have x2 := HX8b.out.cell (j := 2) rfl
        have x3 := HX8b.out.cell (j := 3) rfl
        have x4 := HX8b.out.cell (j := 4) rfl
        have x5 := HX8b.out.cell (j := 5) rfl
        have x6 := HX8b.out.cell (j := 6) rfl
        have xf := HX8b.out.frozen
        have hal := belAlloc (Below.refl w8.heap.size w8) (.cells #[.int .i64 x.err, .slice na x.en nc, .int .i64 x.round, .slice x.pa x.pn x.pc, .bool x.o0, .bool x.o1, .bool x.o2] 49)
        have HOc := Lib.hid (OwnR.later HO8.out hal)
        have HOSc := Lib.hid (HOS8.out.later hal)
        have HEc := Lib.hid (OwnR.later HE8.out hal)
        have HRX := Lib.hid (row_new w8 [.int .i64 x.err, .slice na x.en nc, .int .i64 x.round, .slice x.pa x.pn x.pc, .bool x.o0, .bool x.o1, .bool x.o2] 49 1 7 rfl (by unfold maxLen; omega))
        have hwq : W.heap.size ≤ w8.heap.size := Nat.le_trans hqW HB8.out.size
        have hDl := HDL.out
        have hDk : D.length ≤ 40 := by omega
        clear hal hDl
        go_wp2_with (at_builtin; (refine wpList_app_row rfl _ _ 39 rfl W.heap.size 49 _ 7 72 Tryd.underlying39 infoST rfl (by decide) _ D.length (D.flatMap StepV.cells) rfl HOc.out _ 1 1 [.int .i64 x.err, .slice na x.en nc, .int .i64 x.round, .slice x.pa x.pn x.pc, .bool x.o0, .bool x.o1, .bool x.o2] rfl HRX.out (step_ones ⟨x.err, na, x.en, nc, x.round, x.pa, x.pn, x.pc, x.o0, x.o1, x.o2, x.E⟩) ?c1 ?c2 ?c3 ?_))
        case c1 => simp only [maxLen]; omega
        case c2 => omega
        case c3 => simp; omega
        intro v' w10 ho' hb' hg'
        have HO10 := Lib.hid (own_snocS (x := z) HDL.out (by rw [hz]; rw [HDL.out] at ho'; exact ho'))
        have HOS10 := Lib.hid ((HOSc.out.grown HOc.out hg').snoc (x := z) (by rw [hz]; exact HX1.out) (by rw [hz]; exact own_grownK HEc.out HOc.out (by decide) hg'))
        have HB10 := Lib.hid ((belStep HB.out HB8.out).trans (((belAlloc (Below.refl w8.heap.size w8) (.cells #[.int .i64 x.err, .slice na x.en nc, .int .i64 x.round, .slice x.pa x.pn x.pc, .bool x.o0, .bool x.o1, .bool x.o2] 49)).mono hwq).trans hb'))
        have HS10 := Lib.hid (show (D ++ [z]).map sgS = (L.take (k + 1)).map sgS from by rw [takeG_next HX.out, List.map_append, List.map_append, HSG.out, hz]; rfl)
        clear ho' hb' hg' HOc HOSc HEc HRX HX8 HX8b hz
        go_wp2
        go_roundw
        case rel => exact ⟨k + 1, D ++ [z], by omega, by push_cast; rfl, HO10.out, Lib.hid (by rw [List.length_append, HDL.out]; rfl), HOS10, HS10, HB10⟩
        case measure => simp [intOf] <;> omega
      · obtain rfl : k = L.length := by omega
        have hd : decide ((L.length : Int) < (L.length : Int)) = false := decide_eq_false (by omega)
        rw [List.take_length] at HSG
        generalize wr = wA at *
        obtain ⟨oa, oc, rfl, hRD⟩ := rowR_of_own hO
        have HRD := Lib.hid hRD
        have hob := hRD.2.1
        have hoc := hRD.2.2.1
        unfold maxLen at hoc
        clear hO hRD
        have HEV := Lib.hid (evs_sg HSG.out)
        have hDk : D.length ≤ 40 := by rw [HDL.out]; omega
        have CL := Lib.hid (fun u (hu : Below wA.heap.size wA u) => lg_Lines oa D.length oc D u rfl (fun x hx => good_later (HOS.out.good x hx) hu) (HRD.out.later hu) (by rw [HEV.out]; have := HT.out.2.2; omega) (fun v hv => (HE.out v (belStep HB.out (hu.trans (hv.mono hu.size)))).tab))
        have CC := Lib.hid (fun u (hu : Below wA.heap.size wA u) => lg_Count oa D.length oc D u rfl (fun x hx => good_later (HOS.out.good x hx) hu) (HRD.out.later hu) (by rw [HEV.out]; have := HT.out.2.2; omega))
        have HBW := Lib.hid (Below.refl wA.heap.size wA)
        go_upto_region 11 with (go_at_call 17; (with_reducible refine (CL.out _ HBW.out).mono ?_); rintro e9 wl ⟨hlp, hb9⟩; obtain ⟨la, na, lc, er, R, rfl, hlo, HNa, HSa⟩ := lns_own hlp; have HLA := Lib.hid hlo; have HBl := Lib.hid hb9; clear hlp hlo hb9)
        go_upto_region 12 with (go_at_call 18; (with_reducible refine (CC.out _ HBl.out).mono ?_); rintro e9 wc ⟨rfl, hb9⟩; replace HLA := Lib.hid (OwnR.later HLA.out hb9); replace HBl := Lib.hid (belStep HBl.out hb9); clear hb9)
        clear CC HBW
        have HRc := Lib.hid (HR.out.later (belStep HB.out HBl.out))
        have HRDc := Lib.hid (HRD.out.later HBl.out)
        have HOSc := Lib.hid (HOS.out.later HBl.out)
        have HBc := Lib.hid (belStep HB.out HBl.out)
        have HB2 := Lib.hid (Below.refl wc.heap.size wc)
        go_wp2
        go_loopw [8] (fun iv wq => ∃ j : Nat, j ≤ L.length ∧ iv = .int .i64 j ∧ Hid (Below wc.heap.size wc wq)) (fun iv _ => L.length - (intOf iv).toNat)
        case atStart => exact ⟨0, Nat.zero_le _, rfl, HB2⟩
        case round =>
          clear HB2
          obtain ⟨j, hj, rfl, HBj⟩ := hrel
          by_cases hjt : j < L.length
          · have hjD : j < D.length := by rw [HDL.out]; exact hjt
            have hjDi : (j : Int) < (D.length : Int) := by omega
            obtain ⟨x, hx⟩ : ∃ x, L[j]? = some x := ⟨L[j], List.getElem?_eq_getElem hjt⟩
            obtain ⟨bc, oc, ec, _, hcc⟩ := (HRc.out.later HBj.out).elem StepV.cells_len (by omega) hx
            subst ec
            have c0 := keep (hcc 0 _ rfl)
            have c1 := keep (hcc 1 _ rfl)
            have c2 := keep (hcc 2 _ rfl)
            have c3 := keep (hcc 3 _ rfl)
            have c4 := keep (hcc 4 _ rfl)
            have c5 := keep (hcc 5 _ rfl)
            have c6 := keep (hcc 6 _ rfl)
            rw [Nat.add_zero] at c0
            obtain ⟨z, hz⟩ : ∃ z, D[j]? = some z := ⟨D[j], List.getElem?_eq_getElem hjD⟩
            obtain ⟨bd, od, ed, _, hcd⟩ := (HRDc.out.later HBj.out).elem StepV.cells_len (by omega) hz
            subst ed
            have d0 := keep (hcd 0 _ rfl)
            have d1 := keep (hcd 1 _ rfl)
            have d2 := keep (hcd 2 _ rfl)
            have d3 := keep (hcd 3 _ rfl)
            have d4 := keep (hcd 4 _ rfl)
            have d5 := keep (hcd 5 _ rfl)
            have d6 := keep (hcd 6 _ rfl)
            rw [Nat.add_zero] at d0
            have hd : decide ((j : Int) < (L.length : Int)) = true := decide_eq_true (by omega)
            have hzE := sg_at HSG.out hz hx
            have hgx := HG.out x (List.mem_of_getElem? hx)
            have hgz := HOSc.out.good z (List.mem_of_getElem? hz)
            have hlx := hgx.1.2.2.1
            have hlz := hgz.1.2.2.1
            rw [hzE] at hlz
            have CS := Lib.hid (fun u (hu : Below wr.heap.size wr u) => rf_SameEvents z.ea x.ea z.en x.en z.ec x.ec x.E u hlz hlx (by rw [← hzE]; exact hgz.2.later (belStep HBj.out hu)) (hgx.2.later (belStep HBc.out (belStep HBj.out hu))))
            clear hx hz hcc hcd hzE hgx hgz hlx hlz
            have hbel : Below wr.heap.size wr wr := Below.refl _ _
            go_upto_region 15 with fail
            have kk := fun d os => belStep hbel (below_regrown _ d os)
            refine wp_region_quiet_below (by kernel_rfl) (by kernel_rfl) ?_
            repeat ((with_reducible refine wpQuiet_step (fun K hK => ?_)); go_simp; (try (rw [if_neg]; rotate_left; · decide)); first | ((with_reducible refine hK _ ?_); clear hK K) | (apply Exists.intro; refine ⟨fun _ => ?_, hK _ ?_⟩; ((go_at_call 20; with_reducible exact Calls.regrown_of (CS.out _ (kk _ _)))); clear hK K))
            refine wpQuiet_nil (fun w1 hw1 => ?_)
            replace hbel := belStep hbel (bel_of_class hw1)
            clear hw1 kk
            have HB9 := Lib.hid (belStep HBj.out hbel)
            go_wp2
            go_roundw
            case rel => exact ⟨j + 1, by omega, by push_cast; rfl, HB9⟩
            case measure => simp [intOf] <;> omega
          · obtain rfl : j = L.length := by omega
            have hd : decide ((L.length : Int) < (L.length : Int)) = false := decide_eq_false (by omega)
            generalize wr = wB at *
            have HB3 := Lib.hid (belStep HBl.out HBj.out)
            have HLB := Lib.hid (OwnR.later HLA.out HBj.out)
            clear HRc HRDc HOSc HBc HLA HBl HBj
            go_wp2
            go_loopw [9] (fun iv wq => ∃ (j : Nat) (cs : List Value), j ≤ na ∧ iv = .int .i64 j ∧ Hid (OwnR wq wA.heap.size 9 1 (.slice la na lc) na cs) ∧ Hid (Below wA.heap.size wA wq)) (fun iv _ => na - (intOf iv).toNat)
            case atStart => exact ⟨0, _, Nat.zero_le _, rfl, HLB, HB3⟩
            case round =>
              clear HLB HB3
              obtain ⟨j, cs, hj, rfl, HO3, HB3⟩ := hrel
              by_cases hjn : j < na
              · obtain ⟨h9, _⟩ | ⟨g, cap9, h9, hgA, hgl, hnc, hcm⟩ := own_shapeK HO3.out
                · cases h9; omega
                · cases h9
                  obtain ⟨⟨u0, hu0⟩, hf0⟩ := owns_atK HO3.out hjn
                  have hd : decide ((j : Int) < (na : Int)) = true := decide_eq_true (by omega)
                  have hji : (j : Int) < (na : Int) := by omega
                  have hO4 := owns_setK HO3.out j (.string ⟨#[63]⟩)
                  have hB4 := belLow6 HB3.out ⟨g, j, none⟩ (.string ⟨#[63]⟩) hgA
                  go_wp2
                  go_roundw
                  case rel => exact ⟨j + 1, _, by omega, by push_cast; rfl, Lib.hid hO4, Lib.hid hB4⟩
                  case measure => simp [intOf] <;> omega
              · obtain rfl : na = j := by omega
                have hd : decide ((na : Int) < (na : Int)) = false := decide_eq_false (by omega)
                generalize wr = wC at *
                clear HO3
                go_upto_region 22 with (go_at_call 17; (with_reducible refine (CL.out _ HB3.out).mono ?_); rintro e9 wd ⟨hlp, hb9⟩; obtain ⟨lb, nb, lc2, er2, R2, rfl, hlo, HNb, HSb⟩ := lns_own hlp; have HLB := Lib.hid (row_of_ownW hlo); have HBd := Lib.hid (belStep HB.out (belStep HB3.out hb9)); clear hlp hlo hb9)
                have hee : er = er2 ∧ na = nb ∧ ∀ s ∈ R2, s ≠ [63] := by
                  rcases HSa.out with ⟨a1, a2⟩ | ⟨a1, a2, a3⟩ <;> rcases HSb.out with ⟨b1, b2⟩ | ⟨b1, b2, b3⟩
                  · have e9 := a2.symm.trans b2
                    cases e9
                    exact ⟨by rw [a1, b1], by rw [← HNa.out, ← HNb.out], seq_ne63 _ _ a2⟩
                  · rw [a2] at b2; cases b2
                  · rw [a2] at b2; cases b2
                  · refine ⟨by rw [a1, b1], by rw [a3, b3], fun s hs => ?_⟩
                    have h9 : R2.length = 0 := by rw [HNb.out, b3]
                    rw [List.eq_nil_of_length_eq_zero h9] at hs; cases hs
                obtain ⟨hee1, hee2, hne⟩ := hee
                subst hee1
                subst hee2
                have HNE := Lib.hid hne
                have hbb := HLB.out.2.1
                have hbc := HLB.out.2.2.1
                unfold maxLen at hbc
                clear hne HSa HSb
                have HB5 := Lib.hid (Below.refl wd.heap.size wd)
                go_wp2
                go_loopw [12] (fun iv wq => ∃ j : Nat, j ≤ na ∧ iv = .int .i64 j ∧ Hid (Below wd.heap.size wd wq)) (fun iv _ => na - (intOf iv).toNat)
                case atStart => exact ⟨0, Nat.zero_le _, rfl, HB5⟩
                case round =>
                  clear HB5
                  obtain ⟨j, hj, rfl, HB5⟩ := hrel
                  by_cases hjn : j < na
                  · obtain ⟨s, hs⟩ : ∃ s, R2[j]? = some s := ⟨R2[j]'(by rw [HNb.out]; exact hjn), List.getElem?_eq_getElem _⟩
                    obtain ⟨bq, oq, eq9, hcq⟩ := str_cell (HLB.out.later HB5.out) hs
                    subst eq9
                    have c0 := keep hcq
                    unfold strB at c0
                    have hbel : Below wr.heap.size wr wr := Below.refl _ _
                    have hd : decide ((j : Int) < (na : Int)) = true := decide_eq_true (by omega)
                    have hji : (j : Int) < (na : Int) := by omega
                    have t9 : ((bA s).toList == [63]) = false := by rw [bA_toL, beq_eq_false_iff_ne]; exact HNE.out s (List.mem_of_getElem? hs)
                    clear hs hcq
                    go_wp2
                    go_roundw
                    case rel => exact ⟨j + 1, by omega, by push_cast; rfl, HB5⟩
                    case measure => simp [intOf] <;> omega
                  · obtain rfl : na = j := by omega
                    have hd : decide ((na : Int) < (na : Int)) = false := decide_eq_false (by omega)
                    go_wp2
                    go_ret
                    exact ⟨rfl, belStep HBd.out HB5.out⟩
theorem env_of {W : World} (h : laidMet Tryd.prog Rows.logKeepsRow.laid W) (hs : W.ShapedOpen Tryd.prog) : Env W := env_of7 h hs

set_option maxRecDepth 100000 in
set_option maxRecDepth 100000 in
theorem lifted (os : Os) (started : os.Started) (H : Type) (enc : TypeId × Value → H) :
    ReturnsInHanded {} Tryd.checked os 9 .any (fun w args => (Rows.logKeepsSpec.pre enc Tryd.prog Tryd.f9 [] false w args ∧ laidMetH Tryd.prog Rows.logKeepsRow.laid w) ∧ sizedMet enc Tryd.prog Tryd.f9 (OpenSpec.ofChange Rows.logKeepsSpec) false w args) (Rows.logKeepsSpec.post enc Tryd.prog Tryd.f9 false true false false) := by
  refine returnsInHanded_of_change_and_shaped (C := Tryd.checked) (X := fun w _ => laidMetH Tryd.prog Rows.logKeepsRow.laid w) (fun _ _ _ hh h => h.of_heap hh) own started (by kernel_rfl) Tryd.func9
    (ChangeSpec.witness_shaped (enc := enc) (C := Tryd.checked) (os := os) (X := fun w _ => laidMetH Tryd.prog Rows.logKeepsRow.laid w) false (World.laidAll Tryd.prog os Rows.logKeepsRow.laid) #[.slice none 0 0] 8 (World.laidAll_os _ _ _) (World.shaped_of_ZipB (by kernel_rfl) (by kernel_rfl)) (by kernel_rfl) (by kernel_rfl) (by kernel_rfl) (by rw [MakeChecks.laidMetH_plain _ _ _ (by kernel_rfl)]; exact laidMet_laidAll _ (by kernel_rfl) (by kernel_rfl))) ?_
  intro W base args ds gs before hval0 hW hL hsh
  rw [MakeChecks.laidMetH_plain _ _ _ (by kernel_rfl)] at hL
  have ht : Env W := env_of hL hsh
  clear hL
  have hval : ∀ (j : Nat) t v, Tryd.f9.params[j]? = some t → args[j]? = some v → Value.okWide Tryd.prog W .any base t v := hval0
  have hW' := hW
  obtain ⟨p, q, hA0, hV, rfl, hfz, hnd⟩ := hW
  have hA : DataW.TrodAll enc Tryd.prog W 0 (fun _ => true) true Tryd.f9.params.toList args.toList ds p := hA0
  rw [Tryd.params9] at hA hval
  obtain ⟨v0, vs0, d0, ds0, p0, q0, hargs, rfl, rfl, h0, r0⟩ := trodAll_cons hA
  obtain ⟨rfl, rfl, rfl⟩ := trodAll_nil r0
  obtain rfl : args = #[v0] := by cases args; simp_all
  obtain ⟨rfl, rfl⟩ := trodVars_none hV
  have k0 := h0
  have lt0 : ∀ x ∈ p0, x.block < W.heap.size := by obtain ⟨m, hm⟩ := k0; exact DataW.trod_lt m _ _ _ hm
  have o0 : Value.okWide Tryd.prog W .any base 39 v0 := hval 0 39 v0 rfl rfl
  obtain ⟨a0, len0, cap0, L0, rfl, hl0, hG0, hR0⟩ := open_steps o0 h0
  clear hA0 hval0
  refine (walk a0 len0 cap0 L0 W ht hl0 hG0 hR0).mono fun e W' ⟨he, bel⟩ => ?_
  subst he
  exact ⟨_, rfl, _, _, _, [], _, [], hW', trodAll_mk1 (shut_bool Tryd.underlying4 _), (trodAll_cons_mk (Below.trod laidOut (by kernel_rfl) (of_decide_eq_true (by kernel_rfl)) k0 bel lt0) trodAll_mk0), rfl, bel.frame _, fun h => by cases h⟩

theorem over : Rows.logKeepsRow.holds Tryd.pinned (OpenSpec.ofChange Rows.logKeepsSpec) :=
  OpenClaim.holds_of_wide 9 Tryd.f9 rfl rfl rfl rfl rfl rfl rfl ⟨rfl, rfl, rfl, rfl, rfl⟩ rfl rfl rfl rfl rfl (by kernel_rfl) Tryd.func9 (by kernel_rfl)
    (of_decide_eq_true (by kernel_rfl)) (by unfold Func.isWrapper; first | (rw [if_pos (by decide +kernel)]; kernel_rfl) | (rw [if_neg (by decide +kernel)]; exact ⟨rfl, rfl⟩))
    (fun os started H enc _ => lifted os started H enc)

/-- The statement. -/
theorem proved : Rows.LogKeepsCardSaid :=
  Claim7.holds_tied_plain_at .later [] Rows.logKeepsCard.laidKinds true Rows.logKeepsCard.stood.harness true
    over (fun _ h => by cases h) (by kernel_rfl) (fun _ h => by cases h) logKeeps_row_tie rfl ⟨rfl, rfl⟩ (by kernel_rfl) rfl
    (fun f fn hf hfn => by
      obtain rfl : f = 9 := Option.some.inj ((show Tryd.prog.funcNamed Rows.logKeepsRow.func = some 9 by kernel_rfl).symm.trans hf) |>.symm
      obtain rfl : fn = Tryd.f9 := (Option.some.inj (Tryd.func9.symm.trans hfn)).symm
      exact ⟨by kernel_rfl, fun j t ht => by
        rw [Tryd.params9] at ht
        have hm : t ∈ [39] := by simpa using Array.mem_of_getElem? ht
        have hall : ([39].all fun u => !Tryd.prog.wantsStandIn u) = true := by kernel_rfl
        exact (show Tryd.prog.wantsStandIn t = false by simpa using List.all_eq_true.1 hall t hm)⟩)
    (by kernel_rfl)
#print axioms proved

end Go.Proofs.YtekakalhknjdaaaDoor.logKeeps
