
/- Stage 7: the reference reading of a config: its state; Words, set. Stage 7: the reference reading of a config: contract. -/
import Derived.Test.YtcaenbobfneejaaGreatDoorCfFew
import Derived.Test.YtcaenbobfneejaaGreatDoorKeepC
import Derived.Test.YtcaenbobfneejaaGreatDoorThrRef4
import Derived.Test.YtcaenbobfneejaaGreatDoorLexRef
namespace Go.Proofs.YtcaenbobfneejaaGreatDoor
open Go.RowKit Go.Sort
set_option linter.unusedVariables false
set_option linter.unusedSimpArgs false
/-- Which words were seen. -/
def seenL (U : List Nat) : List Value := [.bool (decide (0 ∈ U)), .bool (decide (1 ∈ U)), .bool (decide (2 ∈ U)), .bool (decide (3 ∈ U)), .bool (decide (4 ∈ U)), .bool (decide (5 ∈ U))]
theorem seenL_at (U : List Nat) {k : Nat} (hk : k < 6) : (seenL U)[k]? = some (.bool (decide (k ∈ U))) := by
  rcases (show k = 0 ∨ k = 1 ∨ k = 2 ∨ k = 3 ∨ k = 4 ∨ k = 5 by omega) with rfl | rfl | rfl | rfl | rfl | rfl <;> rfl
theorem seenL_set (U : List Nat) {k : Nat} (hk : k < 6) : (seenL U).set k (.bool true) = seenL (U ++ [k]) := by
  rcases (show k = 0 ∨ k = 1 ∨ k = 2 ∨ k = 3 ∨ k = 4 ∨ k = 5 by omega) with rfl | rfl | rfl | rfl | rfl | rfl <;> simp [seenL]
theorem sub_len {L : List Nat} : ∀ {U : List Nat}, U.Nodup → (∀ k ∈ U, k ∈ L) → U.length ≤ L.length
  | [], _, _ => Nat.zero_le _
  | x :: U, hn, h => by
    rw [List.nodup_cons] at hn
    have hx := h x List.mem_cons_self
    have ih := sub_len (L := L.erase x) hn.2 (fun k hk => (List.mem_erase_of_ne (fun e => by subst e; exact hn.1 hk)).2 (h k (List.mem_cons_of_mem _ hk)))
    rw [List.length_erase_of_mem hx] at ih
    have := List.length_pos_of_mem hx
    rw [List.length_cons]
    omega
theorem all_six {U : List Nat} (h : ∀ j, j < 6 → j ∈ U) : 6 ≤ U.length := sub_len (U := [0, 1, 2, 3, 4, 5]) (by decide) (fun k hk => h k (by simp at hk; omega))
theorem not_six {U : List Nat} (hn : U.Nodup) (h6 : ∀ k ∈ U, k < 6) {j : Nat} (hj : j < 6) (h : j ∉ U) : U.length < 6 := by
  have := sub_len (L := [0, 1, 2, 3, 4, 5]) (U := j :: U) (List.nodup_cons.2 ⟨h, hn⟩) (fun k hk => by
    have h9 : k < 6 := (List.mem_cons.1 hk).elim (fun e => by rw [e]; exact hj) (fun q => h6 k q)
    simp; omega)
  simp at this; omega
/-- The place of a word among the first j. -/
def kiR (o : Option Nat) (j : Nat) : Int := match o with | some k => if k < j then (k : Int) else -1 | none => -1
theorem kiR_zero (o : Option Nat) : kiR o 0 = -1 := by unfold kiR; cases o <;> simp
theorem kiR_hit {k : Nat} : kiR (some k) (k + 1) = k := by unfold kiR; simp
theorem kiR_miss {o : Option Nat} {j : Nat} (h : o ≠ some j) : kiR o (j + 1) = kiR o j := by
  unfold kiR
  cases o with
  | none => rfl
  | some k =>
    have : k ≠ j := fun e => h (by rw [e])
    simp only
    split <;> split <;> omega
theorem kiR_all {k : Nat} (h : k < 6) : kiR (some k) 6 = k := by unfold kiR; simp [h]
theorem kw_eq {s : ByteArray} {j : Nat} (hj : j < 6) : (kwB j = s) ↔ idxK s.data.toList = some j := by
  constructor
  · intro h; rw [← h]; exact (idx_kwC j hj).1
  · intro h; exact (idx_kw h).2.symm
theorem setF_agg (c : CfM) (k : Nat) (n : List Int) : (setF c k n).T = c.T := setF_T c k n
/-- The state of the reference's reading. -/
structure RfI (w1 : World) (C S6 WB : Nat) (s : CSt) (wr : World) : Prop where
  bel : Below w1.heap.size w1 wr
  low : w1.heap.size ≤ C ∧ w1.heap.size ≤ S6
  cfg : ∃ ta tc, Blk wr C (s.c.cells (.slice ta s.c.T.length tc)) 27 ∧ OwnR wr w1.heap.size 54 5 (.slice ta s.c.T.length tc) s.c.T.length (s.c.T.flatMap ThrV.cells)
  seen : Blk wr S6 (seenL s.U) 50
  words : Blk wr WB [.string ⟨#[99, 97, 112, 97, 99, 105, 116, 121]⟩, .string ⟨#[97, 108, 108, 111, 99, 97, 116, 97, 98, 108, 101]⟩, .string ⟨#[112, 101, 114, 105, 111, 100]⟩, .string ⟨#[114, 101, 116, 114, 105, 101, 115]⟩, .string ⟨#[109, 97, 120, 97, 103, 101]⟩, .string ⟨#[100, 101, 97, 100]⟩] 9
  ok : s.c.ok
  nod : s.U.Nodup
  six : ∀ k ∈ s.U, k < 6
theorem RfI.later {w1 wr w' : World} {C S6 WB : Nat} {s : CSt} (h : RfI w1 C S6 WB s wr) (hb : Below wr.heap.size wr w') : RfI w1 C S6 WB s w' := by
  obtain ⟨ta, tc, h1, h2⟩ := h.cfg
  exact ⟨belStep h.bel hb, h.low, ⟨ta, tc, h1.later hb, h2.later hb⟩, h.seen.later hb, h.words.later hb, h.ok, h.nod, h.six⟩
theorem RfI.thr {w1 wr w' : World} {C S6 WB : Nat} {s : CSt} (h : RfI w1 C S6 WB s wr) {v : Value} {cs : List Value} (hb : Blk wr C cs 27) (ho : OwnR wr w1.heap.size 54 5 v s.c.T.length (s.c.T.flatMap ThrV.cells)) {t : ThrV} (ht : t.ok)
    {v2 : Value} (hC : Blk w' C (({ s.c with T := s.c.T ++ [t] } : CfM).cells v2) 27) (ho2 : OwnR w' w1.heap.size 54 5 v2 (s.c.T ++ [t]).length ((s.c.T ++ [t]).flatMap ThrV.cells)) (hA : Apart (C :: v.ownBlock.toList) wr w') : RfI w1 C S6 WB { s with c := { s.c with T := s.c.T ++ [t] } } w' := by
  obtain ⟨va, vc, rfl, _⟩ := rowR_of_own ho2
  have hF : ∀ b ∈ C :: v.ownBlock.toList, w1.heap.size ≤ b := fun b hb2 => by
    rcases List.mem_cons.1 hb2 with rfl | q
    · exact h.low.1
    · exact (own_type ho (Option.mem_toList.1 q)).1
  have hX : ∀ {g : Nat} {Cs : List Value} {T : TypeId}, Blk wr g Cs T → T ≠ 27 → T ≠ 54 → g ∉ C :: v.ownBlock.toList := fun {g Cs T} hg n1 n2 q => by
    rcases List.mem_cons.1 q with rfl | q
    · exact n1 (hg.type hb)
    · obtain ⟨_, _, C3, h3⟩ := own_type ho (Option.mem_toList.1 q)
      exact n2 (hg.type h3)
  exact ⟨h.bel.trans (hA.below hF h.bel.size), h.low, ⟨va, vc, hC, ho2⟩, h.seen.apart hA (hX h.seen (by decide) (by decide)), h.words.apart hA (hX h.words (by decide) (by decide)), addT_ok h.ok ht, h.nod, h.six⟩
theorem RfI.put {w1 wr : World} {C S6 WB : Nat} {s : CSt} (h : RfI w1 C S6 WB s wr) {ta : Option Addr} {tc : Nat} {cs : List Value} (hb : Blk wr C cs 27) (ho : OwnR wr w1.heap.size 54 5 (.slice ta s.c.T.length tc) s.c.T.length (s.c.T.flatMap ThrV.cells)) {k : Nat} {r : List FldV} (hk : k < 6) (hU : k ∉ s.U) {w' : World}
    (hS : Blk w' S6 (seenL (s.U ++ [k])) 50) (hC : Blk w' C ((setF s.c k (numsF r)).cells (.slice ta s.c.T.length tc)) 27) (hA : Apart [C, S6] wr w') : RfI w1 C S6 WB ⟨setF s.c k (numsF r), s.U ++ [k]⟩ w' := by
  have hF : ∀ b ∈ [C, S6], w1.heap.size ≤ b := fun b hb2 => by simp at hb2; rcases hb2 with rfl | rfl; exact h.low.1; exact h.low.2
  refine ⟨h.bel.trans (hA.below hF h.bel.size), h.low, ⟨ta, tc, ?_, ?_⟩, hS, h.words.apart hA (fun q => ?_), setF_ok h.ok k r, ?_, ?_⟩
  · show Blk w' C ((setF s.c k (numsF r)).cells (.slice ta (setF s.c k (numsF r)).T.length tc)) _
    rw [setF_T]; exact hC
  · show OwnR w' _ _ 5 (.slice ta (setF s.c k (numsF r)).T.length tc) (setF s.c k (numsF r)).T.length ((setF s.c k (numsF r)).T.flatMap ThrV.cells)
    rw [setF_T]
    refine own_same ho (fun g e => hA.block g (own_type ho e).2.1 (fun q => ?_))
    obtain ⟨_, _, C3, h3⟩ := own_type ho e
    simp at q
    rcases q with rfl | rfl
    · exact absurd (h3.type hb) (by decide)
    · exact absurd (h3.type h.seen) (by decide)
  · simp at q
    rcases q with rfl | rfl
    · exact absurd (h.words.type hb) (by decide)
    · exact absurd (h.words.type h.seen) (by decide)
  · rw [List.nodup_append]
    exact ⟨h.nod, by simp, fun a ha b hb2 e => by simp at hb2; subst hb2; subst e; exact hU ha⟩
  · intro j hj
    rcases List.mem_append.1 hj with q | q
    · exact h.six j q
    · simp at q; rw [q]; exact hk
/-- Where Read returns: the config lies in its block. -/
theorem rf_ret7 (R : Nat) (W : World) (tm : Array Value) (x y : Int) (c : CfM) (tv : Value) (Q : Ending → World → Prop) (h2 : tm.getD 2 undef = .pointer (some ⟨R, 0, none⟩)) (h3 : tm.getD 3 undef = .int .i64 x) (h4 : tm.getD 4 undef = .int .i64 y) (hb : Blk W R (c.cells tv) 27) (hQ : Q (.returned (.tuple #[c.v tv, .int .i64 x, .int .i64 y])) W) :
    bodyPost Tryz.prog Tryz.f6 Q Exit.ret { tmps := tm, defers := [] } W := by
  have z0 := hb.cell (j := 0) rfl
  have z1 := hb.cell (j := 1) rfl
  have z2 := hb.cell (j := 2) rfl
  have z3 := hb.cell (j := 3) rfl
  have z4 := hb.cell (j := 4) rfl
  have z5 := hb.cell (j := 5) rfl
  have z6 := hb.cell (j := 6) rfl
  have z7 := hb.cell (j := 7) rfl
  have z8 := hb.cell (j := 8) rfl
  have z9 := hb.cell (j := 9) rfl
  have z10 := hb.cell (j := 10) rfl
  refine bodyPost_ret (v := .tuple #[c.v tv, .int .i64 x, .int .i64 y]) ?_ rfl hQ
  simp only [Array.getD_eq_getD_getElem?] at h2 h3 h4
  simp [results, Tryz.results6, go_sem, CfM.v, h2, h3, h4, z0, z1, z2, z3, z4, z5, z6, z7, z8, z9, z10]
/-- Where set returns. -/
theorem rf_retS (R : Nat) (W : World) (tm : Array Value) (c : CfM) (tv : Value) (Q : Ending → World → Prop) (h6 : tm.getD 6 undef = .pointer (some ⟨R, 0, none⟩)) (hb : Blk W R (c.cells tv) 27) (hQ : Q (.returned (c.v tv)) W) :
    bodyPost Tryz.prog Tryz.f21 Q Exit.ret { tmps := tm, defers := [] } W := by
  have z0 := hb.cell (j := 0) rfl
  have z1 := hb.cell (j := 1) rfl
  have z2 := hb.cell (j := 2) rfl
  have z3 := hb.cell (j := 3) rfl
  have z4 := hb.cell (j := 4) rfl
  have z5 := hb.cell (j := 5) rfl
  have z6 := hb.cell (j := 6) rfl
  have z7 := hb.cell (j := 7) rfl
  have z8 := hb.cell (j := 8) rfl
  have z9 := hb.cell (j := 9) rfl
  have z10 := hb.cell (j := 10) rfl
  refine bodyPost_ret (v := c.v tv) ?_ rfl hQ
  simp only [Array.getD_eq_getD_getElem?] at h6
  simp [results, Tryz.results21, go_sem, CfM.v, h6, z0, z1, z2, z3, z4, z5, z6, z7, z8, z9, z10]
theorem numsOk_next {r : List FldV} {m : Nat} {x : FldV} (h : r[m]? = some x) : numsOk (r.take (m + 1)) = (numsOk (r.take m) && qOk x.text) := by
  unfold numsOk
  rw [List.take_add_one, h, List.all_append]
  simp
theorem numsOk_no {r : List FldV} {x : FldV} (h : x ∈ r) (hq : qOk x.text = false) : numsOk r = false := by
  unfold numsOk
  exact List.all_eq_false.2 ⟨x, h, by rw [hq]; simp⟩
theorem nums_wfC (r : List FldV) : ∀ n ∈ numsF r, (Lit.int .i64 n).wf = true := fun n hn => by
  unfold numsF at hn
  obtain ⟨g, _, rfl⟩ := List.mem_map.1 hn
  exact WalkArith.wf_i64 (inI_mul _ _)
theorem info_intC : (Tryz.prog.info? 3).map (fun i => (i.zero, i.size, i.bytes)) = some (some (.int .i64 0), 1, 8) := by kernel_rfl
set_option maxRecDepth 100000 in
set_option maxHeartbeats 16000000 in
theorem rf_Words (w : World) :
    Calls Tryz.prog 18 #[] w fun e w' => e = .returned (.slice (some ⟨w.heap.size, 0, none⟩) 6 6) ∧ w' = w.alloc (.cells #[.string ⟨#[99, 97, 112, 97, 99, 105, 116, 121]⟩, .string ⟨#[97, 108, 108, 111, 99, 97, 116, 97, 98, 108, 101]⟩, .string ⟨#[112, 101, 114, 105, 111, 100]⟩, .string ⟨#[114, 101, 116, 114, 105, 101, 115]⟩, .string ⟨#[109, 97, 120, 97, 103, 101]⟩, .string ⟨#[100, 101, 97, 100]⟩] 9) := by
  go_enter Tryz.func18, Tryz.ntmps18
  go_wp2
  go_ret
  exact ⟨rfl, rfl⟩
set_option maxRecDepth 100000 in
set_option maxHeartbeats 16000000 in
theorem rf_set (c : CfM) (ta : Option Addr) (tc : Nat) (k : Nat) (hk : k < 6) (na : Option Addr) (nc : Nat) (ns : List Int) (w : World) (hn : ns.length = needN k) (hN : Row w na ns.length nc 1 (ns.map (Value.int .i64))) :
    Calls Tryz.prog 21 #[c.v (.slice ta c.T.length tc), .int .i64 k, .slice na ns.length nc] w fun e w' => e = .returned ((setF c k ns).v (.slice ta c.T.length tc)) ∧ Below w.heap.size w w' := by
  have hbel : Below w.heap.size w w := Below.refl _ _
  unfold CfM.v
  rcases (show k = 0 ∨ k = 1 ∨ k = 2 ∨ k = 3 ∨ k = 4 ∨ k = 5 by omega) with rfl | rfl | rfl | rfl | rfl | rfl
  · obtain ⟨n0, n1, n2, rfl⟩ : ∃ n0 n1 n2, ns = [n0, n1, n2] := by match ns, hn with | [n0, n1, n2], _ => exact ⟨n0, n1, n2, rfl⟩
    have HN := Lib.hid hN
    clear hN
    rw [show ([n0, n1, n2] : List Int).length = 3 from rfl] at HN ⊢
    go_enter Tryz.func21, Tryz.ntmps21
    go_upto_region 1 with fail
    have hb2 := belAlloc (belAlloc hbel (.cells #[.int .i64 c.k0, .int .i64 c.k1, .int .i64 c.k2, .int .i64 c.a0, .int .i64 c.a1, .int .i64 c.a2, .slice ta c.T.length tc, .int .i64 c.per, .int .i64 c.ret, .int .i64 c.age, .int .i64 c.dead] 27)) (.cells #[.int .i64 0, .int .i64 0, .int .i64 0, .int .i64 0, .int .i64 0, .int .i64 0, .slice none 0 0, .int .i64 0, .int .i64 0, .int .i64 0, .int .i64 0] 27)
    have HBc := Lib.hid ((Blk.new w [.int .i64 c.k0, .int .i64 c.k1, .int .i64 c.k2, .int .i64 c.a0, .int .i64 c.a1, .int .i64 c.a2, .slice ta c.T.length tc, .int .i64 c.per, .int .i64 c.ret, .int .i64 c.age, .int .i64 c.dead] 27).later (belAlloc (Below.refl _ _) (.cells #[.int .i64 0, .int .i64 0, .int .i64 0, .int .i64 0, .int .i64 0, .int .i64 0, .slice none 0 0, .int .i64 0, .int .i64 0, .int .i64 0, .int .i64 0] 27)))
    have HBr := Lib.hid (blk_new2 w (.cells #[.int .i64 c.k0, .int .i64 c.k1, .int .i64 c.k2, .int .i64 c.a0, .int .i64 c.a1, .int .i64 c.a2, .slice ta c.T.length tc, .int .i64 c.per, .int .i64 c.ret, .int .i64 c.age, .int .i64 c.dead] 27) [.int .i64 0, .int .i64 0, .int .i64 0, .int .i64 0, .int .i64 0, .int .i64 0, .slice none 0 0, .int .i64 0, .int .i64 0, .int .i64 0, .int .i64 0] 27)
    have HN2 := Lib.hid (HN.out.later hb2)
    have HB2 := Lib.hid hb2
    have hs2 : w.heap.size + 2 ≤ ((w.alloc (.cells #[.int .i64 c.k0, .int .i64 c.k1, .int .i64 c.k2, .int .i64 c.a0, .int .i64 c.a1, .int .i64 c.a2, .slice ta c.T.length tc, .int .i64 c.per, .int .i64 c.ret, .int .i64 c.age, .int .i64 c.dead] 27)).alloc (.cells #[.int .i64 0, .int .i64 0, .int .i64 0, .int .i64 0, .int .i64 0, .int .i64 0, .slice none 0 0, .int .i64 0, .int .i64 0, .int .i64 0, .int .i64 0] 27)).heap.size := by simp
    clear hb2 HN hbel
    generalize (w.alloc (.cells #[.int .i64 c.k0, .int .i64 c.k1, .int .i64 c.k2, .int .i64 c.a0, .int .i64 c.a1, .int .i64 c.a2, .slice ta c.T.length tc, .int .i64 c.per, .int .i64 c.ret, .int .i64 c.age, .int .i64 c.dead] 27)).alloc (.cells #[.int .i64 0, .int .i64 0, .int .i64 0, .int .i64 0, .int .i64 0, .int .i64 0, .slice none 0 0, .int .i64 0, .int .i64 0, .int .i64 0, .int .i64 0] 27) = W2 at *
    obtain ⟨bn, on, rfl, x0⟩ := row1_at HN2.out (k := 0) (x := .int .i64 n0) rfl
    rw [Nat.add_zero] at x0
    obtain ⟨b1_, o1_, e1_, x1⟩ := row1_at HN2.out (k := 1) (x := .int .i64 n1) rfl
    simp only [Option.some.injEq, Addr.mk.injEq, and_true] at e1_
    obtain ⟨rfl, rfl⟩ := e1_
    obtain ⟨b2_, o2_, e2_, x2⟩ := row1_at HN2.out (k := 2) (x := .int .i64 n2) rfl
    simp only [Option.some.injEq, Addr.mk.injEq, and_true] at e2_
    obtain ⟨rfl, rfl⟩ := e2_
    have z0 := HBc.out.cell (j := 0) rfl
    have z1 := HBc.out.cell (j := 1) rfl
    have z2 := HBc.out.cell (j := 2) rfl
    have z3 := HBc.out.cell (j := 3) rfl
    have z4 := HBc.out.cell (j := 4) rfl
    have z5 := HBc.out.cell (j := 5) rfl
    have z6 := HBc.out.cell (j := 6) rfl
    have z7 := HBc.out.cell (j := 7) rfl
    have z8 := HBc.out.cell (j := 8) rfl
    have z9 := HBc.out.cell (j := 9) rfl
    have z10 := HBc.out.cell (j := 10) rfl
    have zf := HBc.out.frozen
    have r0 := HBr.out.cell (j := 0) rfl
    have r1 := HBr.out.cell (j := 1) rfl
    have r2 := HBr.out.cell (j := 2) rfl
    have r3 := HBr.out.cell (j := 3) rfl
    have r4 := HBr.out.cell (j := 4) rfl
    have r5 := HBr.out.cell (j := 5) rfl
    have r6 := HBr.out.cell (j := 6) rfl
    have r7 := HBr.out.cell (j := 7) rfl
    have r8 := HBr.out.cell (j := 8) rfl
    have r9 := HBr.out.cell (j := 9) rfl
    have r10 := HBr.out.cell (j := 10) rfl
    have rf := HBr.out.frozen
    go_wp2
    go_region
    go_wp2
    have hb10 := (belDrew (belSet (belSet (belSet (belSet (belSet (belSet (belSet (belSet (belSet (belSet (belSet (belSet (belSet (belSet HB2.out ⟨w.heap.size, 0, none⟩ (.int .i64 n0) (Nat.le_refl _)) ⟨w.heap.size, 1, none⟩ (.int .i64 n1) (Nat.le_refl _)) ⟨w.heap.size, 2, none⟩ (.int .i64 n2) (Nat.le_refl _)) ⟨w.heap.size + 1, 0, none⟩ (.int .i64 n0) (Nat.le_succ _)) ⟨w.heap.size + 1, 1, none⟩ (.int .i64 n1) (Nat.le_succ _)) ⟨w.heap.size + 1, 2, none⟩ (.int .i64 n2) (Nat.le_succ _)) ⟨w.heap.size + 1, 3, none⟩ (.int .i64 c.a0) (Nat.le_succ _)) ⟨w.heap.size + 1, 4, none⟩ (.int .i64 c.a1) (Nat.le_succ _)) ⟨w.heap.size + 1, 5, none⟩ (.int .i64 c.a2) (Nat.le_succ _)) ⟨w.heap.size + 1, 6, none⟩ (.slice ta c.T.length tc) (Nat.le_succ _)) ⟨w.heap.size + 1, 7, none⟩ (.int .i64 c.per) (Nat.le_succ _)) ⟨w.heap.size + 1, 8, none⟩ (.int .i64 c.ret) (Nat.le_succ _)) ⟨w.heap.size + 1, 9, none⟩ (.int .i64 c.age) (Nat.le_succ _)) ⟨w.heap.size + 1, 10, none⟩ (.int .i64 c.dead) (Nat.le_succ _)))
    have hR10 : Blk ((((((((((((((((W2.setCell ⟨w.heap.size, 0, none⟩ (.int .i64 n0)).setCell ⟨w.heap.size, 1, none⟩ (.int .i64 n1)).setCell ⟨w.heap.size, 2, none⟩ (.int .i64 n2)).setCell ⟨w.heap.size + 1, 0, none⟩ (.int .i64 n0)).setCell ⟨w.heap.size + 1, 1, none⟩ (.int .i64 n1)).setCell ⟨w.heap.size + 1, 2, none⟩ (.int .i64 n2)).setCell ⟨w.heap.size + 1, 3, none⟩ (.int .i64 c.a0)).setCell ⟨w.heap.size + 1, 4, none⟩ (.int .i64 c.a1)).setCell ⟨w.heap.size + 1, 5, none⟩ (.int .i64 c.a2)).setCell ⟨w.heap.size + 1, 6, none⟩ (.slice ta c.T.length tc)).setCell ⟨w.heap.size + 1, 7, none⟩ (.int .i64 c.per)).setCell ⟨w.heap.size + 1, 8, none⟩ (.int .i64 c.ret)).setCell ⟨w.heap.size + 1, 9, none⟩ (.int .i64 c.age)).setCell ⟨w.heap.size + 1, 10, none⟩ (.int .i64 c.dead)).drew)) (w.heap.size + 1) [.int .i64 n0, .int .i64 n1, .int .i64 n2, .int .i64 c.a0, .int .i64 c.a1, .int .i64 c.a2, .slice ta c.T.length tc, .int .i64 c.per, .int .i64 c.ret, .int .i64 c.age, .int .i64 c.dead] 27 := (Blk.later ((((((((((((blk_far (blk_far (blk_far HBr.out ⟨w.heap.size, 0, none⟩ (by show w.heap.size ≠ w.heap.size + 1; omega) (.int .i64 n0)) ⟨w.heap.size, 1, none⟩ (by show w.heap.size ≠ w.heap.size + 1; omega) (.int .i64 n1)) ⟨w.heap.size, 2, none⟩ (by show w.heap.size ≠ w.heap.size + 1; omega) (.int .i64 n2)).set 0 (.int .i64 n0)).set 1 (.int .i64 n1)).set 2 (.int .i64 n2)).set 3 (.int .i64 c.a0)).set 4 (.int .i64 c.a1)).set 5 (.int .i64 c.a2)).set 6 (.slice ta c.T.length tc)).set 7 (.int .i64 c.per)).set 8 (.int .i64 c.ret)).set 9 (.int .i64 c.age)).set 10 (.int .i64 c.dead)) (belDrew (Below.refl _ _)))
    generalize (((((((((((((((W2.setCell ⟨w.heap.size, 0, none⟩ (.int .i64 n0)).setCell ⟨w.heap.size, 1, none⟩ (.int .i64 n1)).setCell ⟨w.heap.size, 2, none⟩ (.int .i64 n2)).setCell ⟨w.heap.size + 1, 0, none⟩ (.int .i64 n0)).setCell ⟨w.heap.size + 1, 1, none⟩ (.int .i64 n1)).setCell ⟨w.heap.size + 1, 2, none⟩ (.int .i64 n2)).setCell ⟨w.heap.size + 1, 3, none⟩ (.int .i64 c.a0)).setCell ⟨w.heap.size + 1, 4, none⟩ (.int .i64 c.a1)).setCell ⟨w.heap.size + 1, 5, none⟩ (.int .i64 c.a2)).setCell ⟨w.heap.size + 1, 6, none⟩ (.slice ta c.T.length tc)).setCell ⟨w.heap.size + 1, 7, none⟩ (.int .i64 c.per)).setCell ⟨w.heap.size + 1, 8, none⟩ (.int .i64 c.ret)).setCell ⟨w.heap.size + 1, 9, none⟩ (.int .i64 c.age)).setCell ⟨w.heap.size + 1, 10, none⟩ (.int .i64 c.dead)).drew) = W10 at hb10 hR10 ⊢
    obtain ⟨c2, hc2⟩ : ∃ c2, setF c 0 [n0, n1, n2] = c2 := ⟨_, rfl⟩
    have he : c2.cells (.slice ta c.T.length tc) = [.int .i64 n0, .int .i64 n1, .int .i64 n2, .int .i64 c.a0, .int .i64 c.a1, .int .i64 c.a2, .slice ta c.T.length tc, .int .i64 c.per, .int .i64 c.ret, .int .i64 c.age, .int .i64 c.dead] := by rw [← hc2]; rfl
    rw [← he] at hR10
    rw [hc2]
    exact rf_retS (w.heap.size + 1) W10 _ c2 (.slice ta c.T.length tc) _ rfl hR10 ⟨rfl, hb10⟩
  · obtain ⟨n0, n1, n2, rfl⟩ : ∃ n0 n1 n2, ns = [n0, n1, n2] := by match ns, hn with | [n0, n1, n2], _ => exact ⟨n0, n1, n2, rfl⟩
    have HN := Lib.hid hN
    clear hN
    rw [show ([n0, n1, n2] : List Int).length = 3 from rfl] at HN ⊢
    go_enter Tryz.func21, Tryz.ntmps21
    go_upto_region 1 with fail
    have hb2 := belAlloc (belAlloc hbel (.cells #[.int .i64 c.k0, .int .i64 c.k1, .int .i64 c.k2, .int .i64 c.a0, .int .i64 c.a1, .int .i64 c.a2, .slice ta c.T.length tc, .int .i64 c.per, .int .i64 c.ret, .int .i64 c.age, .int .i64 c.dead] 27)) (.cells #[.int .i64 0, .int .i64 0, .int .i64 0, .int .i64 0, .int .i64 0, .int .i64 0, .slice none 0 0, .int .i64 0, .int .i64 0, .int .i64 0, .int .i64 0] 27)
    have HBc := Lib.hid ((Blk.new w [.int .i64 c.k0, .int .i64 c.k1, .int .i64 c.k2, .int .i64 c.a0, .int .i64 c.a1, .int .i64 c.a2, .slice ta c.T.length tc, .int .i64 c.per, .int .i64 c.ret, .int .i64 c.age, .int .i64 c.dead] 27).later (belAlloc (Below.refl _ _) (.cells #[.int .i64 0, .int .i64 0, .int .i64 0, .int .i64 0, .int .i64 0, .int .i64 0, .slice none 0 0, .int .i64 0, .int .i64 0, .int .i64 0, .int .i64 0] 27)))
    have HBr := Lib.hid (blk_new2 w (.cells #[.int .i64 c.k0, .int .i64 c.k1, .int .i64 c.k2, .int .i64 c.a0, .int .i64 c.a1, .int .i64 c.a2, .slice ta c.T.length tc, .int .i64 c.per, .int .i64 c.ret, .int .i64 c.age, .int .i64 c.dead] 27) [.int .i64 0, .int .i64 0, .int .i64 0, .int .i64 0, .int .i64 0, .int .i64 0, .slice none 0 0, .int .i64 0, .int .i64 0, .int .i64 0, .int .i64 0] 27)
    have HN2 := Lib.hid (HN.out.later hb2)
    have HB2 := Lib.hid hb2
    have hs2 : w.heap.size + 2 ≤ ((w.alloc (.cells #[.int .i64 c.k0, .int .i64 c.k1, .int .i64 c.k2, .int .i64 c.a0, .int .i64 c.a1, .int .i64 c.a2, .slice ta c.T.length tc, .int .i64 c.per, .int .i64 c.ret, .int .i64 c.age, .int .i64 c.dead] 27)).alloc (.cells #[.int .i64 0, .int .i64 0, .int .i64 0, .int .i64 0, .int .i64 0, .int .i64 0, .slice none 0 0, .int .i64 0, .int .i64 0, .int .i64 0, .int .i64 0] 27)).heap.size := by simp
    clear hb2 HN hbel
    generalize (w.alloc (.cells #[.int .i64 c.k0, .int .i64 c.k1, .int .i64 c.k2, .int .i64 c.a0, .int .i64 c.a1, .int .i64 c.a2, .slice ta c.T.length tc, .int .i64 c.per, .int .i64 c.ret, .int .i64 c.age, .int .i64 c.dead] 27)).alloc (.cells #[.int .i64 0, .int .i64 0, .int .i64 0, .int .i64 0, .int .i64 0, .int .i64 0, .slice none 0 0, .int .i64 0, .int .i64 0, .int .i64 0, .int .i64 0] 27) = W2 at *
    obtain ⟨bn, on, rfl, x0⟩ := row1_at HN2.out (k := 0) (x := .int .i64 n0) rfl
    rw [Nat.add_zero] at x0
    obtain ⟨b1_, o1_, e1_, x1⟩ := row1_at HN2.out (k := 1) (x := .int .i64 n1) rfl
    simp only [Option.some.injEq, Addr.mk.injEq, and_true] at e1_
    obtain ⟨rfl, rfl⟩ := e1_
    obtain ⟨b2_, o2_, e2_, x2⟩ := row1_at HN2.out (k := 2) (x := .int .i64 n2) rfl
    simp only [Option.some.injEq, Addr.mk.injEq, and_true] at e2_
    obtain ⟨rfl, rfl⟩ := e2_
    have z0 := HBc.out.cell (j := 0) rfl
    have z1 := HBc.out.cell (j := 1) rfl
    have z2 := HBc.out.cell (j := 2) rfl
    have z3 := HBc.out.cell (j := 3) rfl
    have z4 := HBc.out.cell (j := 4) rfl
    have z5 := HBc.out.cell (j := 5) rfl
    have z6 := HBc.out.cell (j := 6) rfl
    have z7 := HBc.out.cell (j := 7) rfl
    have z8 := HBc.out.cell (j := 8) rfl
    have z9 := HBc.out.cell (j := 9) rfl
    have z10 := HBc.out.cell (j := 10) rfl
    have zf := HBc.out.frozen
    have r0 := HBr.out.cell (j := 0) rfl
    have r1 := HBr.out.cell (j := 1) rfl
    have r2 := HBr.out.cell (j := 2) rfl
    have r3 := HBr.out.cell (j := 3) rfl
    have r4 := HBr.out.cell (j := 4) rfl
    have r5 := HBr.out.cell (j := 5) rfl
    have r6 := HBr.out.cell (j := 6) rfl
    have r7 := HBr.out.cell (j := 7) rfl
    have r8 := HBr.out.cell (j := 8) rfl
    have r9 := HBr.out.cell (j := 9) rfl
    have r10 := HBr.out.cell (j := 10) rfl
    have rf := HBr.out.frozen
    go_wp2
    go_region
    go_wp2
    have hb10 := (belDrew (belSet (belSet (belSet (belSet (belSet (belSet (belSet (belSet (belSet (belSet (belSet (belSet (belSet (belSet HB2.out ⟨w.heap.size, 3, none⟩ (.int .i64 n0) (Nat.le_refl _)) ⟨w.heap.size, 4, none⟩ (.int .i64 n1) (Nat.le_refl _)) ⟨w.heap.size, 5, none⟩ (.int .i64 n2) (Nat.le_refl _)) ⟨w.heap.size + 1, 0, none⟩ (.int .i64 c.k0) (Nat.le_succ _)) ⟨w.heap.size + 1, 1, none⟩ (.int .i64 c.k1) (Nat.le_succ _)) ⟨w.heap.size + 1, 2, none⟩ (.int .i64 c.k2) (Nat.le_succ _)) ⟨w.heap.size + 1, 3, none⟩ (.int .i64 n0) (Nat.le_succ _)) ⟨w.heap.size + 1, 4, none⟩ (.int .i64 n1) (Nat.le_succ _)) ⟨w.heap.size + 1, 5, none⟩ (.int .i64 n2) (Nat.le_succ _)) ⟨w.heap.size + 1, 6, none⟩ (.slice ta c.T.length tc) (Nat.le_succ _)) ⟨w.heap.size + 1, 7, none⟩ (.int .i64 c.per) (Nat.le_succ _)) ⟨w.heap.size + 1, 8, none⟩ (.int .i64 c.ret) (Nat.le_succ _)) ⟨w.heap.size + 1, 9, none⟩ (.int .i64 c.age) (Nat.le_succ _)) ⟨w.heap.size + 1, 10, none⟩ (.int .i64 c.dead) (Nat.le_succ _)))
    have hR10 : Blk ((((((((((((((((W2.setCell ⟨w.heap.size, 3, none⟩ (.int .i64 n0)).setCell ⟨w.heap.size, 4, none⟩ (.int .i64 n1)).setCell ⟨w.heap.size, 5, none⟩ (.int .i64 n2)).setCell ⟨w.heap.size + 1, 0, none⟩ (.int .i64 c.k0)).setCell ⟨w.heap.size + 1, 1, none⟩ (.int .i64 c.k1)).setCell ⟨w.heap.size + 1, 2, none⟩ (.int .i64 c.k2)).setCell ⟨w.heap.size + 1, 3, none⟩ (.int .i64 n0)).setCell ⟨w.heap.size + 1, 4, none⟩ (.int .i64 n1)).setCell ⟨w.heap.size + 1, 5, none⟩ (.int .i64 n2)).setCell ⟨w.heap.size + 1, 6, none⟩ (.slice ta c.T.length tc)).setCell ⟨w.heap.size + 1, 7, none⟩ (.int .i64 c.per)).setCell ⟨w.heap.size + 1, 8, none⟩ (.int .i64 c.ret)).setCell ⟨w.heap.size + 1, 9, none⟩ (.int .i64 c.age)).setCell ⟨w.heap.size + 1, 10, none⟩ (.int .i64 c.dead)).drew)) (w.heap.size + 1) [.int .i64 c.k0, .int .i64 c.k1, .int .i64 c.k2, .int .i64 n0, .int .i64 n1, .int .i64 n2, .slice ta c.T.length tc, .int .i64 c.per, .int .i64 c.ret, .int .i64 c.age, .int .i64 c.dead] 27 := (Blk.later ((((((((((((blk_far (blk_far (blk_far HBr.out ⟨w.heap.size, 3, none⟩ (by show w.heap.size ≠ w.heap.size + 1; omega) (.int .i64 n0)) ⟨w.heap.size, 4, none⟩ (by show w.heap.size ≠ w.heap.size + 1; omega) (.int .i64 n1)) ⟨w.heap.size, 5, none⟩ (by show w.heap.size ≠ w.heap.size + 1; omega) (.int .i64 n2)).set 0 (.int .i64 c.k0)).set 1 (.int .i64 c.k1)).set 2 (.int .i64 c.k2)).set 3 (.int .i64 n0)).set 4 (.int .i64 n1)).set 5 (.int .i64 n2)).set 6 (.slice ta c.T.length tc)).set 7 (.int .i64 c.per)).set 8 (.int .i64 c.ret)).set 9 (.int .i64 c.age)).set 10 (.int .i64 c.dead)) (belDrew (Below.refl _ _)))
    generalize (((((((((((((((W2.setCell ⟨w.heap.size, 3, none⟩ (.int .i64 n0)).setCell ⟨w.heap.size, 4, none⟩ (.int .i64 n1)).setCell ⟨w.heap.size, 5, none⟩ (.int .i64 n2)).setCell ⟨w.heap.size + 1, 0, none⟩ (.int .i64 c.k0)).setCell ⟨w.heap.size + 1, 1, none⟩ (.int .i64 c.k1)).setCell ⟨w.heap.size + 1, 2, none⟩ (.int .i64 c.k2)).setCell ⟨w.heap.size + 1, 3, none⟩ (.int .i64 n0)).setCell ⟨w.heap.size + 1, 4, none⟩ (.int .i64 n1)).setCell ⟨w.heap.size + 1, 5, none⟩ (.int .i64 n2)).setCell ⟨w.heap.size + 1, 6, none⟩ (.slice ta c.T.length tc)).setCell ⟨w.heap.size + 1, 7, none⟩ (.int .i64 c.per)).setCell ⟨w.heap.size + 1, 8, none⟩ (.int .i64 c.ret)).setCell ⟨w.heap.size + 1, 9, none⟩ (.int .i64 c.age)).setCell ⟨w.heap.size + 1, 10, none⟩ (.int .i64 c.dead)).drew) = W10 at hb10 hR10 ⊢
    obtain ⟨c2, hc2⟩ : ∃ c2, setF c 1 [n0, n1, n2] = c2 := ⟨_, rfl⟩
    have he : c2.cells (.slice ta c.T.length tc) = [.int .i64 c.k0, .int .i64 c.k1, .int .i64 c.k2, .int .i64 n0, .int .i64 n1, .int .i64 n2, .slice ta c.T.length tc, .int .i64 c.per, .int .i64 c.ret, .int .i64 c.age, .int .i64 c.dead] := by rw [← hc2]; rfl
    rw [← he] at hR10
    rw [hc2]
    exact rf_retS (w.heap.size + 1) W10 _ c2 (.slice ta c.T.length tc) _ rfl hR10 ⟨rfl, hb10⟩
  · obtain ⟨n0, rfl⟩ : ∃ n0, ns = [n0] := by match ns, hn with | [n0], _ => exact ⟨n0, rfl⟩
    have HN := Lib.hid hN
    clear hN
    rw [show ([n0] : List Int).length = 1 from rfl] at HN ⊢
    go_enter Tryz.func21, Tryz.ntmps21
    go_upto_region 1 with fail
    have hb2 := belAlloc (belAlloc hbel (.cells #[.int .i64 c.k0, .int .i64 c.k1, .int .i64 c.k2, .int .i64 c.a0, .int .i64 c.a1, .int .i64 c.a2, .slice ta c.T.length tc, .int .i64 c.per, .int .i64 c.ret, .int .i64 c.age, .int .i64 c.dead] 27)) (.cells #[.int .i64 0, .int .i64 0, .int .i64 0, .int .i64 0, .int .i64 0, .int .i64 0, .slice none 0 0, .int .i64 0, .int .i64 0, .int .i64 0, .int .i64 0] 27)
    have HBc := Lib.hid ((Blk.new w [.int .i64 c.k0, .int .i64 c.k1, .int .i64 c.k2, .int .i64 c.a0, .int .i64 c.a1, .int .i64 c.a2, .slice ta c.T.length tc, .int .i64 c.per, .int .i64 c.ret, .int .i64 c.age, .int .i64 c.dead] 27).later (belAlloc (Below.refl _ _) (.cells #[.int .i64 0, .int .i64 0, .int .i64 0, .int .i64 0, .int .i64 0, .int .i64 0, .slice none 0 0, .int .i64 0, .int .i64 0, .int .i64 0, .int .i64 0] 27)))
    have HBr := Lib.hid (blk_new2 w (.cells #[.int .i64 c.k0, .int .i64 c.k1, .int .i64 c.k2, .int .i64 c.a0, .int .i64 c.a1, .int .i64 c.a2, .slice ta c.T.length tc, .int .i64 c.per, .int .i64 c.ret, .int .i64 c.age, .int .i64 c.dead] 27) [.int .i64 0, .int .i64 0, .int .i64 0, .int .i64 0, .int .i64 0, .int .i64 0, .slice none 0 0, .int .i64 0, .int .i64 0, .int .i64 0, .int .i64 0] 27)
    have HN2 := Lib.hid (HN.out.later hb2)
    have HB2 := Lib.hid hb2
    have hs2 : w.heap.size + 2 ≤ ((w.alloc (.cells #[.int .i64 c.k0, .int .i64 c.k1, .int .i64 c.k2, .int .i64 c.a0, .int .i64 c.a1, .int .i64 c.a2, .slice ta c.T.length tc, .int .i64 c.per, .int .i64 c.ret, .int .i64 c.age, .int .i64 c.dead] 27)).alloc (.cells #[.int .i64 0, .int .i64 0, .int .i64 0, .int .i64 0, .int .i64 0, .int .i64 0, .slice none 0 0, .int .i64 0, .int .i64 0, .int .i64 0, .int .i64 0] 27)).heap.size := by simp
    clear hb2 HN hbel
    generalize (w.alloc (.cells #[.int .i64 c.k0, .int .i64 c.k1, .int .i64 c.k2, .int .i64 c.a0, .int .i64 c.a1, .int .i64 c.a2, .slice ta c.T.length tc, .int .i64 c.per, .int .i64 c.ret, .int .i64 c.age, .int .i64 c.dead] 27)).alloc (.cells #[.int .i64 0, .int .i64 0, .int .i64 0, .int .i64 0, .int .i64 0, .int .i64 0, .slice none 0 0, .int .i64 0, .int .i64 0, .int .i64 0, .int .i64 0] 27) = W2 at *
    obtain ⟨bn, on, rfl, x0⟩ := row1_at HN2.out (k := 0) (x := .int .i64 n0) rfl
    rw [Nat.add_zero] at x0
    have z0 := HBc.out.cell (j := 0) rfl
    have z1 := HBc.out.cell (j := 1) rfl
    have z2 := HBc.out.cell (j := 2) rfl
    have z3 := HBc.out.cell (j := 3) rfl
    have z4 := HBc.out.cell (j := 4) rfl
    have z5 := HBc.out.cell (j := 5) rfl
    have z6 := HBc.out.cell (j := 6) rfl
    have z7 := HBc.out.cell (j := 7) rfl
    have z8 := HBc.out.cell (j := 8) rfl
    have z9 := HBc.out.cell (j := 9) rfl
    have z10 := HBc.out.cell (j := 10) rfl
    have zf := HBc.out.frozen
    have r0 := HBr.out.cell (j := 0) rfl
    have r1 := HBr.out.cell (j := 1) rfl
    have r2 := HBr.out.cell (j := 2) rfl
    have r3 := HBr.out.cell (j := 3) rfl
    have r4 := HBr.out.cell (j := 4) rfl
    have r5 := HBr.out.cell (j := 5) rfl
    have r6 := HBr.out.cell (j := 6) rfl
    have r7 := HBr.out.cell (j := 7) rfl
    have r8 := HBr.out.cell (j := 8) rfl
    have r9 := HBr.out.cell (j := 9) rfl
    have r10 := HBr.out.cell (j := 10) rfl
    have rf := HBr.out.frozen
    go_wp2
    have hb10 := (belSet (belSet (belSet (belSet (belSet (belSet (belSet (belSet (belSet (belSet (belSet (belSet HB2.out ⟨w.heap.size, 7, none⟩ (.int .i64 n0) (Nat.le_refl _)) ⟨w.heap.size + 1, 0, none⟩ (.int .i64 c.k0) (Nat.le_succ _)) ⟨w.heap.size + 1, 1, none⟩ (.int .i64 c.k1) (Nat.le_succ _)) ⟨w.heap.size + 1, 2, none⟩ (.int .i64 c.k2) (Nat.le_succ _)) ⟨w.heap.size + 1, 3, none⟩ (.int .i64 c.a0) (Nat.le_succ _)) ⟨w.heap.size + 1, 4, none⟩ (.int .i64 c.a1) (Nat.le_succ _)) ⟨w.heap.size + 1, 5, none⟩ (.int .i64 c.a2) (Nat.le_succ _)) ⟨w.heap.size + 1, 6, none⟩ (.slice ta c.T.length tc) (Nat.le_succ _)) ⟨w.heap.size + 1, 7, none⟩ (.int .i64 n0) (Nat.le_succ _)) ⟨w.heap.size + 1, 8, none⟩ (.int .i64 c.ret) (Nat.le_succ _)) ⟨w.heap.size + 1, 9, none⟩ (.int .i64 c.age) (Nat.le_succ _)) ⟨w.heap.size + 1, 10, none⟩ (.int .i64 c.dead) (Nat.le_succ _))
    have hR10 : Blk (((((((((((((W2.setCell ⟨w.heap.size, 7, none⟩ (.int .i64 n0)).setCell ⟨w.heap.size + 1, 0, none⟩ (.int .i64 c.k0)).setCell ⟨w.heap.size + 1, 1, none⟩ (.int .i64 c.k1)).setCell ⟨w.heap.size + 1, 2, none⟩ (.int .i64 c.k2)).setCell ⟨w.heap.size + 1, 3, none⟩ (.int .i64 c.a0)).setCell ⟨w.heap.size + 1, 4, none⟩ (.int .i64 c.a1)).setCell ⟨w.heap.size + 1, 5, none⟩ (.int .i64 c.a2)).setCell ⟨w.heap.size + 1, 6, none⟩ (.slice ta c.T.length tc)).setCell ⟨w.heap.size + 1, 7, none⟩ (.int .i64 n0)).setCell ⟨w.heap.size + 1, 8, none⟩ (.int .i64 c.ret)).setCell ⟨w.heap.size + 1, 9, none⟩ (.int .i64 c.age)).setCell ⟨w.heap.size + 1, 10, none⟩ (.int .i64 c.dead))) (w.heap.size + 1) [.int .i64 c.k0, .int .i64 c.k1, .int .i64 c.k2, .int .i64 c.a0, .int .i64 c.a1, .int .i64 c.a2, .slice ta c.T.length tc, .int .i64 n0, .int .i64 c.ret, .int .i64 c.age, .int .i64 c.dead] 27 := ((((((((((((blk_far HBr.out ⟨w.heap.size, 7, none⟩ (by show w.heap.size ≠ w.heap.size + 1; omega) (.int .i64 n0)).set 0 (.int .i64 c.k0)).set 1 (.int .i64 c.k1)).set 2 (.int .i64 c.k2)).set 3 (.int .i64 c.a0)).set 4 (.int .i64 c.a1)).set 5 (.int .i64 c.a2)).set 6 (.slice ta c.T.length tc)).set 7 (.int .i64 n0)).set 8 (.int .i64 c.ret)).set 9 (.int .i64 c.age)).set 10 (.int .i64 c.dead))
    generalize ((((((((((((W2.setCell ⟨w.heap.size, 7, none⟩ (.int .i64 n0)).setCell ⟨w.heap.size + 1, 0, none⟩ (.int .i64 c.k0)).setCell ⟨w.heap.size + 1, 1, none⟩ (.int .i64 c.k1)).setCell ⟨w.heap.size + 1, 2, none⟩ (.int .i64 c.k2)).setCell ⟨w.heap.size + 1, 3, none⟩ (.int .i64 c.a0)).setCell ⟨w.heap.size + 1, 4, none⟩ (.int .i64 c.a1)).setCell ⟨w.heap.size + 1, 5, none⟩ (.int .i64 c.a2)).setCell ⟨w.heap.size + 1, 6, none⟩ (.slice ta c.T.length tc)).setCell ⟨w.heap.size + 1, 7, none⟩ (.int .i64 n0)).setCell ⟨w.heap.size + 1, 8, none⟩ (.int .i64 c.ret)).setCell ⟨w.heap.size + 1, 9, none⟩ (.int .i64 c.age)).setCell ⟨w.heap.size + 1, 10, none⟩ (.int .i64 c.dead)) = W10 at hb10 hR10 ⊢
    obtain ⟨c2, hc2⟩ : ∃ c2, setF c 2 [n0] = c2 := ⟨_, rfl⟩
    have he : c2.cells (.slice ta c.T.length tc) = [.int .i64 c.k0, .int .i64 c.k1, .int .i64 c.k2, .int .i64 c.a0, .int .i64 c.a1, .int .i64 c.a2, .slice ta c.T.length tc, .int .i64 n0, .int .i64 c.ret, .int .i64 c.age, .int .i64 c.dead] := by rw [← hc2]; rfl
    rw [← he] at hR10
    rw [hc2]
    exact rf_retS (w.heap.size + 1) W10 _ c2 (.slice ta c.T.length tc) _ rfl hR10 ⟨rfl, hb10⟩
  · obtain ⟨n0, rfl⟩ : ∃ n0, ns = [n0] := by match ns, hn with | [n0], _ => exact ⟨n0, rfl⟩
    have HN := Lib.hid hN
    clear hN
    rw [show ([n0] : List Int).length = 1 from rfl] at HN ⊢
    go_enter Tryz.func21, Tryz.ntmps21
    go_upto_region 1 with fail
    have hb2 := belAlloc (belAlloc hbel (.cells #[.int .i64 c.k0, .int .i64 c.k1, .int .i64 c.k2, .int .i64 c.a0, .int .i64 c.a1, .int .i64 c.a2, .slice ta c.T.length tc, .int .i64 c.per, .int .i64 c.ret, .int .i64 c.age, .int .i64 c.dead] 27)) (.cells #[.int .i64 0, .int .i64 0, .int .i64 0, .int .i64 0, .int .i64 0, .int .i64 0, .slice none 0 0, .int .i64 0, .int .i64 0, .int .i64 0, .int .i64 0] 27)
    have HBc := Lib.hid ((Blk.new w [.int .i64 c.k0, .int .i64 c.k1, .int .i64 c.k2, .int .i64 c.a0, .int .i64 c.a1, .int .i64 c.a2, .slice ta c.T.length tc, .int .i64 c.per, .int .i64 c.ret, .int .i64 c.age, .int .i64 c.dead] 27).later (belAlloc (Below.refl _ _) (.cells #[.int .i64 0, .int .i64 0, .int .i64 0, .int .i64 0, .int .i64 0, .int .i64 0, .slice none 0 0, .int .i64 0, .int .i64 0, .int .i64 0, .int .i64 0] 27)))
    have HBr := Lib.hid (blk_new2 w (.cells #[.int .i64 c.k0, .int .i64 c.k1, .int .i64 c.k2, .int .i64 c.a0, .int .i64 c.a1, .int .i64 c.a2, .slice ta c.T.length tc, .int .i64 c.per, .int .i64 c.ret, .int .i64 c.age, .int .i64 c.dead] 27) [.int .i64 0, .int .i64 0, .int .i64 0, .int .i64 0, .int .i64 0, .int .i64 0, .slice none 0 0, .int .i64 0, .int .i64 0, .int .i64 0, .int .i64 0] 27)
    have HN2 := Lib.hid (HN.out.later hb2)
    have HB2 := Lib.hid hb2
    have hs2 : w.heap.size + 2 ≤ ((w.alloc (.cells #[.int .i64 c.k0, .int .i64 c.k1, .int .i64 c.k2, .int .i64 c.a0, .int .i64 c.a1, .int .i64 c.a2, .slice ta c.T.length tc, .int .i64 c.per, .int .i64 c.ret, .int .i64 c.age, .int .i64 c.dead] 27)).alloc (.cells #[.int .i64 0, .int .i64 0, .int .i64 0, .int .i64 0, .int .i64 0, .int .i64 0, .slice none 0 0, .int .i64 0, .int .i64 0, .int .i64 0, .int .i64 0] 27)).heap.size := by simp
    clear hb2 HN hbel
    generalize (w.alloc (.cells #[.int .i64 c.k0, .int .i64 c.k1, .int .i64 c.k2, .int .i64 c.a0, .int .i64 c.a1, .int .i64 c.a2, .slice ta c.T.length tc, .int .i64 c.per, .int .i64 c.ret, .int .i64 c.age, .int .i64 c.dead] 27)).alloc (.cells #[.int .i64 0, .int .i64 0, .int .i64 0, .int .i64 0, .int .i64 0, .int .i64 0, .slice none 0 0, .int .i64 0, .int .i64 0, .int .i64 0, .int .i64 0] 27) = W2 at *
    obtain ⟨bn, on, rfl, x0⟩ := row1_at HN2.out (k := 0) (x := .int .i64 n0) rfl
    rw [Nat.add_zero] at x0
    have z0 := HBc.out.cell (j := 0) rfl
    have z1 := HBc.out.cell (j := 1) rfl
    have z2 := HBc.out.cell (j := 2) rfl
    have z3 := HBc.out.cell (j := 3) rfl
    have z4 := HBc.out.cell (j := 4) rfl
    have z5 := HBc.out.cell (j := 5) rfl
    have z6 := HBc.out.cell (j := 6) rfl
    have z7 := HBc.out.cell (j := 7) rfl
    have z8 := HBc.out.cell (j := 8) rfl
    have z9 := HBc.out.cell (j := 9) rfl
    have z10 := HBc.out.cell (j := 10) rfl
    have zf := HBc.out.frozen
    have r0 := HBr.out.cell (j := 0) rfl
    have r1 := HBr.out.cell (j := 1) rfl
    have r2 := HBr.out.cell (j := 2) rfl
    have r3 := HBr.out.cell (j := 3) rfl
    have r4 := HBr.out.cell (j := 4) rfl
    have r5 := HBr.out.cell (j := 5) rfl
    have r6 := HBr.out.cell (j := 6) rfl
    have r7 := HBr.out.cell (j := 7) rfl
    have r8 := HBr.out.cell (j := 8) rfl
    have r9 := HBr.out.cell (j := 9) rfl
    have r10 := HBr.out.cell (j := 10) rfl
    have rf := HBr.out.frozen
    go_wp2
    have hb10 := (belSet (belSet (belSet (belSet (belSet (belSet (belSet (belSet (belSet (belSet (belSet (belSet HB2.out ⟨w.heap.size, 8, none⟩ (.int .i64 n0) (Nat.le_refl _)) ⟨w.heap.size + 1, 0, none⟩ (.int .i64 c.k0) (Nat.le_succ _)) ⟨w.heap.size + 1, 1, none⟩ (.int .i64 c.k1) (Nat.le_succ _)) ⟨w.heap.size + 1, 2, none⟩ (.int .i64 c.k2) (Nat.le_succ _)) ⟨w.heap.size + 1, 3, none⟩ (.int .i64 c.a0) (Nat.le_succ _)) ⟨w.heap.size + 1, 4, none⟩ (.int .i64 c.a1) (Nat.le_succ _)) ⟨w.heap.size + 1, 5, none⟩ (.int .i64 c.a2) (Nat.le_succ _)) ⟨w.heap.size + 1, 6, none⟩ (.slice ta c.T.length tc) (Nat.le_succ _)) ⟨w.heap.size + 1, 7, none⟩ (.int .i64 c.per) (Nat.le_succ _)) ⟨w.heap.size + 1, 8, none⟩ (.int .i64 n0) (Nat.le_succ _)) ⟨w.heap.size + 1, 9, none⟩ (.int .i64 c.age) (Nat.le_succ _)) ⟨w.heap.size + 1, 10, none⟩ (.int .i64 c.dead) (Nat.le_succ _))
    have hR10 : Blk (((((((((((((W2.setCell ⟨w.heap.size, 8, none⟩ (.int .i64 n0)).setCell ⟨w.heap.size + 1, 0, none⟩ (.int .i64 c.k0)).setCell ⟨w.heap.size + 1, 1, none⟩ (.int .i64 c.k1)).setCell ⟨w.heap.size + 1, 2, none⟩ (.int .i64 c.k2)).setCell ⟨w.heap.size + 1, 3, none⟩ (.int .i64 c.a0)).setCell ⟨w.heap.size + 1, 4, none⟩ (.int .i64 c.a1)).setCell ⟨w.heap.size + 1, 5, none⟩ (.int .i64 c.a2)).setCell ⟨w.heap.size + 1, 6, none⟩ (.slice ta c.T.length tc)).setCell ⟨w.heap.size + 1, 7, none⟩ (.int .i64 c.per)).setCell ⟨w.heap.size + 1, 8, none⟩ (.int .i64 n0)).setCell ⟨w.heap.size + 1, 9, none⟩ (.int .i64 c.age)).setCell ⟨w.heap.size + 1, 10, none⟩ (.int .i64 c.dead))) (w.heap.size + 1) [.int .i64 c.k0, .int .i64 c.k1, .int .i64 c.k2, .int .i64 c.a0, .int .i64 c.a1, .int .i64 c.a2, .slice ta c.T.length tc, .int .i64 c.per, .int .i64 n0, .int .i64 c.age, .int .i64 c.dead] 27 := ((((((((((((blk_far HBr.out ⟨w.heap.size, 8, none⟩ (by show w.heap.size ≠ w.heap.size + 1; omega) (.int .i64 n0)).set 0 (.int .i64 c.k0)).set 1 (.int .i64 c.k1)).set 2 (.int .i64 c.k2)).set 3 (.int .i64 c.a0)).set 4 (.int .i64 c.a1)).set 5 (.int .i64 c.a2)).set 6 (.slice ta c.T.length tc)).set 7 (.int .i64 c.per)).set 8 (.int .i64 n0)).set 9 (.int .i64 c.age)).set 10 (.int .i64 c.dead))
    generalize ((((((((((((W2.setCell ⟨w.heap.size, 8, none⟩ (.int .i64 n0)).setCell ⟨w.heap.size + 1, 0, none⟩ (.int .i64 c.k0)).setCell ⟨w.heap.size + 1, 1, none⟩ (.int .i64 c.k1)).setCell ⟨w.heap.size + 1, 2, none⟩ (.int .i64 c.k2)).setCell ⟨w.heap.size + 1, 3, none⟩ (.int .i64 c.a0)).setCell ⟨w.heap.size + 1, 4, none⟩ (.int .i64 c.a1)).setCell ⟨w.heap.size + 1, 5, none⟩ (.int .i64 c.a2)).setCell ⟨w.heap.size + 1, 6, none⟩ (.slice ta c.T.length tc)).setCell ⟨w.heap.size + 1, 7, none⟩ (.int .i64 c.per)).setCell ⟨w.heap.size + 1, 8, none⟩ (.int .i64 n0)).setCell ⟨w.heap.size + 1, 9, none⟩ (.int .i64 c.age)).setCell ⟨w.heap.size + 1, 10, none⟩ (.int .i64 c.dead)) = W10 at hb10 hR10 ⊢
    obtain ⟨c2, hc2⟩ : ∃ c2, setF c 3 [n0] = c2 := ⟨_, rfl⟩
    have he : c2.cells (.slice ta c.T.length tc) = [.int .i64 c.k0, .int .i64 c.k1, .int .i64 c.k2, .int .i64 c.a0, .int .i64 c.a1, .int .i64 c.a2, .slice ta c.T.length tc, .int .i64 c.per, .int .i64 n0, .int .i64 c.age, .int .i64 c.dead] := by rw [← hc2]; rfl
    rw [← he] at hR10
    rw [hc2]
    exact rf_retS (w.heap.size + 1) W10 _ c2 (.slice ta c.T.length tc) _ rfl hR10 ⟨rfl, hb10⟩
  · obtain ⟨n0, rfl⟩ : ∃ n0, ns = [n0] := by match ns, hn with | [n0], _ => exact ⟨n0, rfl⟩
    have HN := Lib.hid hN
    clear hN
    rw [show ([n0] : List Int).length = 1 from rfl] at HN ⊢
    go_enter Tryz.func21, Tryz.ntmps21
    go_upto_region 1 with fail
    have hb2 := belAlloc (belAlloc hbel (.cells #[.int .i64 c.k0, .int .i64 c.k1, .int .i64 c.k2, .int .i64 c.a0, .int .i64 c.a1, .int .i64 c.a2, .slice ta c.T.length tc, .int .i64 c.per, .int .i64 c.ret, .int .i64 c.age, .int .i64 c.dead] 27)) (.cells #[.int .i64 0, .int .i64 0, .int .i64 0, .int .i64 0, .int .i64 0, .int .i64 0, .slice none 0 0, .int .i64 0, .int .i64 0, .int .i64 0, .int .i64 0] 27)
    have HBc := Lib.hid ((Blk.new w [.int .i64 c.k0, .int .i64 c.k1, .int .i64 c.k2, .int .i64 c.a0, .int .i64 c.a1, .int .i64 c.a2, .slice ta c.T.length tc, .int .i64 c.per, .int .i64 c.ret, .int .i64 c.age, .int .i64 c.dead] 27).later (belAlloc (Below.refl _ _) (.cells #[.int .i64 0, .int .i64 0, .int .i64 0, .int .i64 0, .int .i64 0, .int .i64 0, .slice none 0 0, .int .i64 0, .int .i64 0, .int .i64 0, .int .i64 0] 27)))
    have HBr := Lib.hid (blk_new2 w (.cells #[.int .i64 c.k0, .int .i64 c.k1, .int .i64 c.k2, .int .i64 c.a0, .int .i64 c.a1, .int .i64 c.a2, .slice ta c.T.length tc, .int .i64 c.per, .int .i64 c.ret, .int .i64 c.age, .int .i64 c.dead] 27) [.int .i64 0, .int .i64 0, .int .i64 0, .int .i64 0, .int .i64 0, .int .i64 0, .slice none 0 0, .int .i64 0, .int .i64 0, .int .i64 0, .int .i64 0] 27)
    have HN2 := Lib.hid (HN.out.later hb2)
    have HB2 := Lib.hid hb2
    have hs2 : w.heap.size + 2 ≤ ((w.alloc (.cells #[.int .i64 c.k0, .int .i64 c.k1, .int .i64 c.k2, .int .i64 c.a0, .int .i64 c.a1, .int .i64 c.a2, .slice ta c.T.length tc, .int .i64 c.per, .int .i64 c.ret, .int .i64 c.age, .int .i64 c.dead] 27)).alloc (.cells #[.int .i64 0, .int .i64 0, .int .i64 0, .int .i64 0, .int .i64 0, .int .i64 0, .slice none 0 0, .int .i64 0, .int .i64 0, .int .i64 0, .int .i64 0] 27)).heap.size := by simp
    clear hb2 HN hbel
    generalize (w.alloc (.cells #[.int .i64 c.k0, .int .i64 c.k1, .int .i64 c.k2, .int .i64 c.a0, .int .i64 c.a1, .int .i64 c.a2, .slice ta c.T.length tc, .int .i64 c.per, .int .i64 c.ret, .int .i64 c.age, .int .i64 c.dead] 27)).alloc (.cells #[.int .i64 0, .int .i64 0, .int .i64 0, .int .i64 0, .int .i64 0, .int .i64 0, .slice none 0 0, .int .i64 0, .int .i64 0, .int .i64 0, .int .i64 0] 27) = W2 at *
    obtain ⟨bn, on, rfl, x0⟩ := row1_at HN2.out (k := 0) (x := .int .i64 n0) rfl
    rw [Nat.add_zero] at x0
    have z0 := HBc.out.cell (j := 0) rfl
    have z1 := HBc.out.cell (j := 1) rfl
    have z2 := HBc.out.cell (j := 2) rfl
    have z3 := HBc.out.cell (j := 3) rfl
    have z4 := HBc.out.cell (j := 4) rfl
    have z5 := HBc.out.cell (j := 5) rfl
    have z6 := HBc.out.cell (j := 6) rfl
    have z7 := HBc.out.cell (j := 7) rfl
    have z8 := HBc.out.cell (j := 8) rfl
    have z9 := HBc.out.cell (j := 9) rfl
    have z10 := HBc.out.cell (j := 10) rfl
    have zf := HBc.out.frozen
    have r0 := HBr.out.cell (j := 0) rfl
    have r1 := HBr.out.cell (j := 1) rfl
    have r2 := HBr.out.cell (j := 2) rfl
    have r3 := HBr.out.cell (j := 3) rfl
    have r4 := HBr.out.cell (j := 4) rfl
    have r5 := HBr.out.cell (j := 5) rfl
    have r6 := HBr.out.cell (j := 6) rfl
    have r7 := HBr.out.cell (j := 7) rfl
    have r8 := HBr.out.cell (j := 8) rfl
    have r9 := HBr.out.cell (j := 9) rfl
    have r10 := HBr.out.cell (j := 10) rfl
    have rf := HBr.out.frozen
    go_wp2
    have hb10 := (belSet (belSet (belSet (belSet (belSet (belSet (belSet (belSet (belSet (belSet (belSet (belSet HB2.out ⟨w.heap.size, 9, none⟩ (.int .i64 n0) (Nat.le_refl _)) ⟨w.heap.size + 1, 0, none⟩ (.int .i64 c.k0) (Nat.le_succ _)) ⟨w.heap.size + 1, 1, none⟩ (.int .i64 c.k1) (Nat.le_succ _)) ⟨w.heap.size + 1, 2, none⟩ (.int .i64 c.k2) (Nat.le_succ _)) ⟨w.heap.size + 1, 3, none⟩ (.int .i64 c.a0) (Nat.le_succ _)) ⟨w.heap.size + 1, 4, none⟩ (.int .i64 c.a1) (Nat.le_succ _)) ⟨w.heap.size + 1, 5, none⟩ (.int .i64 c.a2) (Nat.le_succ _)) ⟨w.heap.size + 1, 6, none⟩ (.slice ta c.T.length tc) (Nat.le_succ _)) ⟨w.heap.size + 1, 7, none⟩ (.int .i64 c.per) (Nat.le_succ _)) ⟨w.heap.size + 1, 8, none⟩ (.int .i64 c.ret) (Nat.le_succ _)) ⟨w.heap.size + 1, 9, none⟩ (.int .i64 n0) (Nat.le_succ _)) ⟨w.heap.size + 1, 10, none⟩ (.int .i64 c.dead) (Nat.le_succ _))
    have hR10 : Blk (((((((((((((W2.setCell ⟨w.heap.size, 9, none⟩ (.int .i64 n0)).setCell ⟨w.heap.size + 1, 0, none⟩ (.int .i64 c.k0)).setCell ⟨w.heap.size + 1, 1, none⟩ (.int .i64 c.k1)).setCell ⟨w.heap.size + 1, 2, none⟩ (.int .i64 c.k2)).setCell ⟨w.heap.size + 1, 3, none⟩ (.int .i64 c.a0)).setCell ⟨w.heap.size + 1, 4, none⟩ (.int .i64 c.a1)).setCell ⟨w.heap.size + 1, 5, none⟩ (.int .i64 c.a2)).setCell ⟨w.heap.size + 1, 6, none⟩ (.slice ta c.T.length tc)).setCell ⟨w.heap.size + 1, 7, none⟩ (.int .i64 c.per)).setCell ⟨w.heap.size + 1, 8, none⟩ (.int .i64 c.ret)).setCell ⟨w.heap.size + 1, 9, none⟩ (.int .i64 n0)).setCell ⟨w.heap.size + 1, 10, none⟩ (.int .i64 c.dead))) (w.heap.size + 1) [.int .i64 c.k0, .int .i64 c.k1, .int .i64 c.k2, .int .i64 c.a0, .int .i64 c.a1, .int .i64 c.a2, .slice ta c.T.length tc, .int .i64 c.per, .int .i64 c.ret, .int .i64 n0, .int .i64 c.dead] 27 := ((((((((((((blk_far HBr.out ⟨w.heap.size, 9, none⟩ (by show w.heap.size ≠ w.heap.size + 1; omega) (.int .i64 n0)).set 0 (.int .i64 c.k0)).set 1 (.int .i64 c.k1)).set 2 (.int .i64 c.k2)).set 3 (.int .i64 c.a0)).set 4 (.int .i64 c.a1)).set 5 (.int .i64 c.a2)).set 6 (.slice ta c.T.length tc)).set 7 (.int .i64 c.per)).set 8 (.int .i64 c.ret)).set 9 (.int .i64 n0)).set 10 (.int .i64 c.dead))
    generalize ((((((((((((W2.setCell ⟨w.heap.size, 9, none⟩ (.int .i64 n0)).setCell ⟨w.heap.size + 1, 0, none⟩ (.int .i64 c.k0)).setCell ⟨w.heap.size + 1, 1, none⟩ (.int .i64 c.k1)).setCell ⟨w.heap.size + 1, 2, none⟩ (.int .i64 c.k2)).setCell ⟨w.heap.size + 1, 3, none⟩ (.int .i64 c.a0)).setCell ⟨w.heap.size + 1, 4, none⟩ (.int .i64 c.a1)).setCell ⟨w.heap.size + 1, 5, none⟩ (.int .i64 c.a2)).setCell ⟨w.heap.size + 1, 6, none⟩ (.slice ta c.T.length tc)).setCell ⟨w.heap.size + 1, 7, none⟩ (.int .i64 c.per)).setCell ⟨w.heap.size + 1, 8, none⟩ (.int .i64 c.ret)).setCell ⟨w.heap.size + 1, 9, none⟩ (.int .i64 n0)).setCell ⟨w.heap.size + 1, 10, none⟩ (.int .i64 c.dead)) = W10 at hb10 hR10 ⊢
    obtain ⟨c2, hc2⟩ : ∃ c2, setF c 4 [n0] = c2 := ⟨_, rfl⟩
    have he : c2.cells (.slice ta c.T.length tc) = [.int .i64 c.k0, .int .i64 c.k1, .int .i64 c.k2, .int .i64 c.a0, .int .i64 c.a1, .int .i64 c.a2, .slice ta c.T.length tc, .int .i64 c.per, .int .i64 c.ret, .int .i64 n0, .int .i64 c.dead] := by rw [← hc2]; rfl
    rw [← he] at hR10
    rw [hc2]
    exact rf_retS (w.heap.size + 1) W10 _ c2 (.slice ta c.T.length tc) _ rfl hR10 ⟨rfl, hb10⟩
  · obtain ⟨n0, rfl⟩ : ∃ n0, ns = [n0] := by match ns, hn with | [n0], _ => exact ⟨n0, rfl⟩
    have HN := Lib.hid hN
    clear hN
    rw [show ([n0] : List Int).length = 1 from rfl] at HN ⊢
    go_enter Tryz.func21, Tryz.ntmps21
    go_upto_region 1 with fail
    have hb2 := belAlloc (belAlloc hbel (.cells #[.int .i64 c.k0, .int .i64 c.k1, .int .i64 c.k2, .int .i64 c.a0, .int .i64 c.a1, .int .i64 c.a2, .slice ta c.T.length tc, .int .i64 c.per, .int .i64 c.ret, .int .i64 c.age, .int .i64 c.dead] 27)) (.cells #[.int .i64 0, .int .i64 0, .int .i64 0, .int .i64 0, .int .i64 0, .int .i64 0, .slice none 0 0, .int .i64 0, .int .i64 0, .int .i64 0, .int .i64 0] 27)
    have HBc := Lib.hid ((Blk.new w [.int .i64 c.k0, .int .i64 c.k1, .int .i64 c.k2, .int .i64 c.a0, .int .i64 c.a1, .int .i64 c.a2, .slice ta c.T.length tc, .int .i64 c.per, .int .i64 c.ret, .int .i64 c.age, .int .i64 c.dead] 27).later (belAlloc (Below.refl _ _) (.cells #[.int .i64 0, .int .i64 0, .int .i64 0, .int .i64 0, .int .i64 0, .int .i64 0, .slice none 0 0, .int .i64 0, .int .i64 0, .int .i64 0, .int .i64 0] 27)))
    have HBr := Lib.hid (blk_new2 w (.cells #[.int .i64 c.k0, .int .i64 c.k1, .int .i64 c.k2, .int .i64 c.a0, .int .i64 c.a1, .int .i64 c.a2, .slice ta c.T.length tc, .int .i64 c.per, .int .i64 c.ret, .int .i64 c.age, .int .i64 c.dead] 27) [.int .i64 0, .int .i64 0, .int .i64 0, .int .i64 0, .int .i64 0, .int .i64 0, .slice none 0 0, .int .i64 0, .int .i64 0, .int .i64 0, .int .i64 0] 27)
    have HN2 := Lib.hid (HN.out.later hb2)
    have HB2 := Lib.hid hb2
    have hs2 : w.heap.size + 2 ≤ ((w.alloc (.cells #[.int .i64 c.k0, .int .i64 c.k1, .int .i64 c.k2, .int .i64 c.a0, .int .i64 c.a1, .int .i64 c.a2, .slice ta c.T.length tc, .int .i64 c.per, .int .i64 c.ret, .int .i64 c.age, .int .i64 c.dead] 27)).alloc (.cells #[.int .i64 0, .int .i64 0, .int .i64 0, .int .i64 0, .int .i64 0, .int .i64 0, .slice none 0 0, .int .i64 0, .int .i64 0, .int .i64 0, .int .i64 0] 27)).heap.size := by simp
    clear hb2 HN hbel
    generalize (w.alloc (.cells #[.int .i64 c.k0, .int .i64 c.k1, .int .i64 c.k2, .int .i64 c.a0, .int .i64 c.a1, .int .i64 c.a2, .slice ta c.T.length tc, .int .i64 c.per, .int .i64 c.ret, .int .i64 c.age, .int .i64 c.dead] 27)).alloc (.cells #[.int .i64 0, .int .i64 0, .int .i64 0, .int .i64 0, .int .i64 0, .int .i64 0, .slice none 0 0, .int .i64 0, .int .i64 0, .int .i64 0, .int .i64 0] 27) = W2 at *
    obtain ⟨bn, on, rfl, x0⟩ := row1_at HN2.out (k := 0) (x := .int .i64 n0) rfl
    rw [Nat.add_zero] at x0
    have z0 := HBc.out.cell (j := 0) rfl
    have z1 := HBc.out.cell (j := 1) rfl
    have z2 := HBc.out.cell (j := 2) rfl
    have z3 := HBc.out.cell (j := 3) rfl
    have z4 := HBc.out.cell (j := 4) rfl
    have z5 := HBc.out.cell (j := 5) rfl
    have z6 := HBc.out.cell (j := 6) rfl
    have z7 := HBc.out.cell (j := 7) rfl
    have z8 := HBc.out.cell (j := 8) rfl
    have z9 := HBc.out.cell (j := 9) rfl
    have z10 := HBc.out.cell (j := 10) rfl
    have zf := HBc.out.frozen
    have r0 := HBr.out.cell (j := 0) rfl
    have r1 := HBr.out.cell (j := 1) rfl
    have r2 := HBr.out.cell (j := 2) rfl
    have r3 := HBr.out.cell (j := 3) rfl
    have r4 := HBr.out.cell (j := 4) rfl
    have r5 := HBr.out.cell (j := 5) rfl
    have r6 := HBr.out.cell (j := 6) rfl
    have r7 := HBr.out.cell (j := 7) rfl
    have r8 := HBr.out.cell (j := 8) rfl
    have r9 := HBr.out.cell (j := 9) rfl
    have r10 := HBr.out.cell (j := 10) rfl
    have rf := HBr.out.frozen
    go_wp2
    have hb10 := (belSet (belSet (belSet (belSet (belSet (belSet (belSet (belSet (belSet (belSet (belSet (belSet HB2.out ⟨w.heap.size, 10, none⟩ (.int .i64 n0) (Nat.le_refl _)) ⟨w.heap.size + 1, 0, none⟩ (.int .i64 c.k0) (Nat.le_succ _)) ⟨w.heap.size + 1, 1, none⟩ (.int .i64 c.k1) (Nat.le_succ _)) ⟨w.heap.size + 1, 2, none⟩ (.int .i64 c.k2) (Nat.le_succ _)) ⟨w.heap.size + 1, 3, none⟩ (.int .i64 c.a0) (Nat.le_succ _)) ⟨w.heap.size + 1, 4, none⟩ (.int .i64 c.a1) (Nat.le_succ _)) ⟨w.heap.size + 1, 5, none⟩ (.int .i64 c.a2) (Nat.le_succ _)) ⟨w.heap.size + 1, 6, none⟩ (.slice ta c.T.length tc) (Nat.le_succ _)) ⟨w.heap.size + 1, 7, none⟩ (.int .i64 c.per) (Nat.le_succ _)) ⟨w.heap.size + 1, 8, none⟩ (.int .i64 c.ret) (Nat.le_succ _)) ⟨w.heap.size + 1, 9, none⟩ (.int .i64 c.age) (Nat.le_succ _)) ⟨w.heap.size + 1, 10, none⟩ (.int .i64 n0) (Nat.le_succ _))
    have hR10 : Blk (((((((((((((W2.setCell ⟨w.heap.size, 10, none⟩ (.int .i64 n0)).setCell ⟨w.heap.size + 1, 0, none⟩ (.int .i64 c.k0)).setCell ⟨w.heap.size + 1, 1, none⟩ (.int .i64 c.k1)).setCell ⟨w.heap.size + 1, 2, none⟩ (.int .i64 c.k2)).setCell ⟨w.heap.size + 1, 3, none⟩ (.int .i64 c.a0)).setCell ⟨w.heap.size + 1, 4, none⟩ (.int .i64 c.a1)).setCell ⟨w.heap.size + 1, 5, none⟩ (.int .i64 c.a2)).setCell ⟨w.heap.size + 1, 6, none⟩ (.slice ta c.T.length tc)).setCell ⟨w.heap.size + 1, 7, none⟩ (.int .i64 c.per)).setCell ⟨w.heap.size + 1, 8, none⟩ (.int .i64 c.ret)).setCell ⟨w.heap.size + 1, 9, none⟩ (.int .i64 c.age)).setCell ⟨w.heap.size + 1, 10, none⟩ (.int .i64 n0))) (w.heap.size + 1) [.int .i64 c.k0, .int .i64 c.k1, .int .i64 c.k2, .int .i64 c.a0, .int .i64 c.a1, .int .i64 c.a2, .slice ta c.T.length tc, .int .i64 c.per, .int .i64 c.ret, .int .i64 c.age, .int .i64 n0] 27 := ((((((((((((blk_far HBr.out ⟨w.heap.size, 10, none⟩ (by show w.heap.size ≠ w.heap.size + 1; omega) (.int .i64 n0)).set 0 (.int .i64 c.k0)).set 1 (.int .i64 c.k1)).set 2 (.int .i64 c.k2)).set 3 (.int .i64 c.a0)).set 4 (.int .i64 c.a1)).set 5 (.int .i64 c.a2)).set 6 (.slice ta c.T.length tc)).set 7 (.int .i64 c.per)).set 8 (.int .i64 c.ret)).set 9 (.int .i64 c.age)).set 10 (.int .i64 n0))
    generalize ((((((((((((W2.setCell ⟨w.heap.size, 10, none⟩ (.int .i64 n0)).setCell ⟨w.heap.size + 1, 0, none⟩ (.int .i64 c.k0)).setCell ⟨w.heap.size + 1, 1, none⟩ (.int .i64 c.k1)).setCell ⟨w.heap.size + 1, 2, none⟩ (.int .i64 c.k2)).setCell ⟨w.heap.size + 1, 3, none⟩ (.int .i64 c.a0)).setCell ⟨w.heap.size + 1, 4, none⟩ (.int .i64 c.a1)).setCell ⟨w.heap.size + 1, 5, none⟩ (.int .i64 c.a2)).setCell ⟨w.heap.size + 1, 6, none⟩ (.slice ta c.T.length tc)).setCell ⟨w.heap.size + 1, 7, none⟩ (.int .i64 c.per)).setCell ⟨w.heap.size + 1, 8, none⟩ (.int .i64 c.ret)).setCell ⟨w.heap.size + 1, 9, none⟩ (.int .i64 c.age)).setCell ⟨w.heap.size + 1, 10, none⟩ (.int .i64 n0)) = W10 at hb10 hR10 ⊢
    obtain ⟨c2, hc2⟩ : ∃ c2, setF c 5 [n0] = c2 := ⟨_, rfl⟩
    have he : c2.cells (.slice ta c.T.length tc) = [.int .i64 c.k0, .int .i64 c.k1, .int .i64 c.k2, .int .i64 c.a0, .int .i64 c.a1, .int .i64 c.a2, .slice ta c.T.length tc, .int .i64 c.per, .int .i64 c.ret, .int .i64 c.age, .int .i64 n0] := by rw [← hc2]; rfl
    rw [← he] at hR10
    rw [hc2]
    exact rf_retS (w.heap.size + 1) W10 _ c2 (.slice ta c.T.length tc) _ rfl hR10 ⟨rfl, hb10⟩
end Go.Proofs.YtcaenbobfneejaaGreatDoor
namespace Go.Proofs.YtcaenbobfneejaaGreatDoor
open Go.RowKit Go.Sort
set_option linter.unusedVariables false
set_option linter.unusedSimpArgs false
set_option maxRecDepth 100000 in
set_option maxHeartbeats 32000000 in
theorem rf_Read7 (a : Option Addr) (len cap : Nat) (L : List UInt8) (w : World) (hI : Ints .u8 w a len cap (numsL L)) :
    Calls Tryz.prog 6 #[.slice a len cap] w fun e w' => ResC w' w.heap.size e (confF L) ∧ Below w.heap.size w w' := by
  have HI := Lib.hid hI
  clear hI
  go_enter Tryz.func6, Tryz.ntmps6
  go_upto_region 1 with fail
  have kR := belAlloc (Below.refl w.heap.size w) (.cells #[.int .i64 0, .int .i64 0, .int .i64 0, .int .i64 0, .int .i64 0, .int .i64 0, .slice none 0 0, .int .i64 0, .int .i64 0, .int .i64 0, .int .i64 0] 27)
  have HR0 := Lib.hid (Blk.new w [.int .i64 0, .int .i64 0, .int .i64 0, .int .i64 0, .int .i64 0, .int .i64 0, .slice none 0 0, .int .i64 0, .int .i64 0, .int .i64 0, .int .i64 0] 27)
  generalize w.alloc (.cells #[.int .i64 0, .int .i64 0, .int .i64 0, .int .i64 0, .int .i64 0, .int .i64 0, .slice none 0 0, .int .i64 0, .int .i64 0, .int .i64 0, .int .i64 0] 27) = w0 at *
  have HI0 := Lib.hid (HI.out.later kR)
  have HB0 := Lib.hid kR
  clear kR HI
  cases hrd : readB L with
  | false =>
    have HCF := Lib.hid (show confF L = .error (0, 2) from by unfold confF; rw [hrd]; rfl)
    have CRD := Lib.hid (rlex_Readable a len cap L w0 HI0.out)
    rw [hrd] at CRD
    clear hrd
    have z0 := HR0.out.cell (j := 0) rfl
    have z1 := HR0.out.cell (j := 1) rfl
    have z2 := HR0.out.cell (j := 2) rfl
    have z3 := HR0.out.cell (j := 3) rfl
    have z4 := HR0.out.cell (j := 4) rfl
    have z5 := HR0.out.cell (j := 5) rfl
    have z6 := HR0.out.cell (j := 6) rfl
    have z7 := HR0.out.cell (j := 7) rfl
    have z8 := HR0.out.cell (j := 8) rfl
    have z9 := HR0.out.cell (j := 9) rfl
    have z10 := HR0.out.cell (j := 10) rfl
    have zf := HR0.out.frozen
    go_wp2_with (go_at_call 16; (with_reducible refine (CRD.out).mono ?_); rintro e w' ⟨rfl, rfl⟩)
    have hb10 := (belSet (belSet (belSet (belSet (belSet (belSet (belSet (belSet (belSet (belSet (belSet HB0.out ⟨w.heap.size, 0, none⟩ (.int .i64 0) (Nat.le_refl _)) ⟨w.heap.size, 1, none⟩ (.int .i64 0) (Nat.le_refl _)) ⟨w.heap.size, 2, none⟩ (.int .i64 0) (Nat.le_refl _)) ⟨w.heap.size, 3, none⟩ (.int .i64 0) (Nat.le_refl _)) ⟨w.heap.size, 4, none⟩ (.int .i64 0) (Nat.le_refl _)) ⟨w.heap.size, 5, none⟩ (.int .i64 0) (Nat.le_refl _)) ⟨w.heap.size, 6, none⟩ (.slice none 0 0) (Nat.le_refl _)) ⟨w.heap.size, 7, none⟩ (.int .i64 0) (Nat.le_refl _)) ⟨w.heap.size, 8, none⟩ (.int .i64 0) (Nat.le_refl _)) ⟨w.heap.size, 9, none⟩ (.int .i64 0) (Nat.le_refl _)) ⟨w.heap.size, 10, none⟩ (.int .i64 0) (Nat.le_refl _))
    have hR10 := (((((((((((HR0.out.set 0 (.int .i64 0)).set 1 (.int .i64 0)).set 2 (.int .i64 0)).set 3 (.int .i64 0)).set 4 (.int .i64 0)).set 5 (.int .i64 0)).set 6 (.slice none 0 0)).set 7 (.int .i64 0)).set 8 (.int .i64 0)).set 9 (.int .i64 0)).set 10 (.int .i64 0))
    generalize (((((((((((w0.setCell ⟨w.heap.size, 0, none⟩ (.int .i64 0)).setCell ⟨w.heap.size, 1, none⟩ (.int .i64 0)).setCell ⟨w.heap.size, 2, none⟩ (.int .i64 0)).setCell ⟨w.heap.size, 3, none⟩ (.int .i64 0)).setCell ⟨w.heap.size, 4, none⟩ (.int .i64 0)).setCell ⟨w.heap.size, 5, none⟩ (.int .i64 0)).setCell ⟨w.heap.size, 6, none⟩ (.slice none 0 0)).setCell ⟨w.heap.size, 7, none⟩ (.int .i64 0)).setCell ⟨w.heap.size, 8, none⟩ (.int .i64 0)).setCell ⟨w.heap.size, 9, none⟩ (.int .i64 0)).setCell ⟨w.heap.size, 10, none⟩ (.int .i64 0)) = W10 at hb10 hR10 ⊢
    refine rf_ret7 w.heap.size W10 _ _ _ (CfM.zero) (.slice none 0 0) _ rfl rfl rfl hR10 ⟨?_, hb10⟩
    rw [HCF.out]
    rfl
  | true =>
    have HRD := Lib.hid hrd
    have CRD := Lib.hid (rlex_Readable a len cap L w0 HI0.out)
    rw [hrd] at CRD
    have CL := Lib.hid (rlex_Lines a len cap L w0 HI0.out hrd)
    clear hrd
    go_upto_region 4 with (first | (go_at_call 16; (with_reducible refine (CRD.out).mono ?_); rintro e w' ⟨rfl, rfl⟩) | (go_at_call 17; (with_reducible refine (CL.out).mono ?_); rintro e w1 ⟨⟨lb, ln, vs, rfl, hrow_⟩, hb_⟩; have HB1 := Lib.hid (belStep HB0.out hb_); have HR1 := Lib.hid (HR0.out.later hb_); have HW := Lib.hid hrow_; clear hb_ hrow_ CL HI0 HR0 HB0))
    clear CRD
    obtain ⟨LL, hLL⟩ : ∃ LL, fieldsF L = LL := ⟨_, rfl⟩
    rw [hLL] at HW ⊢
    have HLL := Lib.hid hLL
    clear hLL
    have HCF := Lib.hid (show confF L = (match linesR CSt.zero LL with | .error x => .error x | .ok s => endR s) from by unfold confF; rw [HRD.out, HLL.out]; rfl)
    have hln : LL.length ≤ ln ∧ ln ≤ 9223372036854775807 := by obtain ⟨_, _, e9, hr9⟩ := rowR_of_own HW.out.out; obtain ⟨_, h1, h2, _⟩ := hr9; simp at e9; obtain ⟨_, rfl⟩ := e9; unfold maxLen at h2; exact ⟨h1, h2⟩
    obtain ⟨hln1, hln2⟩ := hln
    go_upto_region 5 with fail
    have kC := belAlloc (Below.refl w1.heap.size w1) (.cells #[.int .i64 0, .int .i64 0, .int .i64 0, .int .i64 0, .int .i64 0, .int .i64 0, .slice none 0 0, .int .i64 0, .int .i64 0, .int .i64 0, .int .i64 0] 27)
    have HC0 := Lib.hid (Blk.new w1 [.int .i64 0, .int .i64 0, .int .i64 0, .int .i64 0, .int .i64 0, .int .i64 0, .slice none 0 0, .int .i64 0, .int .i64 0, .int .i64 0, .int .i64 0] 27)
    generalize w1.alloc (.cells #[.int .i64 0, .int .i64 0, .int .i64 0, .int .i64 0, .int .i64 0, .int .i64 0, .slice none 0 0, .int .i64 0, .int .i64 0, .int .i64 0, .int .i64 0] 27) = wC at *
    have HBC := Lib.hid kC
    have hsC : w1.heap.size < wC.heap.size := HC0.out.lt
    clear kC
    go_upto_region 6 with fail
    have kS := belAlloc (Below.refl wC.heap.size wC) (.cells #[.bool false, .bool false, .bool false, .bool false, .bool false, .bool false] 50)
    have HS0 := Lib.hid (Blk.new wC [.bool false, .bool false, .bool false, .bool false, .bool false, .bool false] 50)
    generalize wC.alloc (.cells #[.bool false, .bool false, .bool false, .bool false, .bool false, .bool false] 50) = wS at *
    have HBS := Lib.hid kS
    clear kS
    go_upto_region 7 with (go_at_call 18; (with_reducible refine (rf_Words wS).mono ?_); rintro e w3 ⟨rfl, rfl⟩)
    have kW := belAlloc (Below.refl wS.heap.size wS) (.cells #[.string ⟨#[99, 97, 112, 97, 99, 105, 116, 121]⟩, .string ⟨#[97, 108, 108, 111, 99, 97, 116, 97, 98, 108, 101]⟩, .string ⟨#[112, 101, 114, 105, 111, 100]⟩, .string ⟨#[114, 101, 116, 114, 105, 101, 115]⟩, .string ⟨#[109, 97, 120, 97, 103, 101]⟩, .string ⟨#[100, 101, 97, 100]⟩] 9)
    have HW0 := Lib.hid (Blk.new wS [.string ⟨#[99, 97, 112, 97, 99, 105, 116, 121]⟩, .string ⟨#[97, 108, 108, 111, 99, 97, 116, 97, 98, 108, 101]⟩, .string ⟨#[112, 101, 114, 105, 111, 100]⟩, .string ⟨#[114, 101, 116, 114, 105, 101, 115]⟩, .string ⟨#[109, 97, 120, 97, 103, 101]⟩, .string ⟨#[100, 101, 97, 100]⟩] 9)
    generalize wS.alloc (.cells #[.string ⟨#[99, 97, 112, 97, 99, 105, 116, 121]⟩, .string ⟨#[97, 108, 108, 111, 99, 97, 116, 97, 98, 108, 101]⟩, .string ⟨#[112, 101, 114, 105, 111, 100]⟩, .string ⟨#[114, 101, 116, 114, 105, 101, 115]⟩, .string ⟨#[109, 97, 120, 97, 103, 101]⟩, .string ⟨#[100, 101, 97, 100]⟩] 9) = w4 at *
    have HRI := Lib.hid (show RfI w1 w1.heap.size wC.heap.size wS.heap.size CSt.zero w4 from ⟨belStep (belStep HBC.out HBS.out) kW, ⟨Nat.le_refl _, by omega⟩, ⟨none, 0, (HC0.out.later HBS.out).later kW, OwnR.nil _ _ _ _⟩, HS0.out.later kW, HW0.out, CfM.zero_ok, List.nodup_nil, fun k hk => by cases hk⟩)
    generalize wS.heap.size = WB at *
    generalize wC.heap.size = S6 at *
    clear kW HW0 HS0 HBS HBC HC0
    go_wp2
    go_loopw [9] (fun i wr => ∃ (k : Nat) (s : CSt), k ≤ LL.length ∧ i = .int .i64 k ∧ Hid (linesR CSt.zero LL = linesR s (LL.drop k)) ∧ Hid (s.c.T.length ≤ k) ∧ Hid (RfI w1 w1.heap.size S6 WB s wr)) (fun i _ => LL.length - (intOf i).toNat)
    case atStart => exact ⟨0, CSt.zero, Nat.zero_le _, rfl, Lib.hid rfl, Lib.hid (Nat.zero_le _), HRI⟩
    case round =>
      clear HRI
      obtain ⟨k, s, hk, rfl, HS, HT, HRI⟩ := hrel
      have hbel1 : Below w1.heap.size w1 wr := HRI.out.bel
      have HBw := Lib.hid (belStep HB1.out hbel1)
      by_cases hlt : k < LL.length
      · have hd : decide ((k : Int) < (LL.length : Int)) = true := decide_eq_true (by omega)
        have hki : (k : Int) < (LL.length : Int) := by omega
        have hk0 : (0 : Int) ≤ (k : Int) := by omega
        obtain ⟨F, hF⟩ : ∃ F, LL[k]? = some F := ⟨LL[k], List.getElem?_eq_getElem hlt⟩
        have hFm : F ∈ fieldsF L := by rw [HLL.out]; exact List.mem_of_getElem? hF
        have hne := fields_ne HRD.out hFm
        have HLN := Lib.hid (linesR_cut (s := s) hF)
        have htxt : ∀ x ∈ F, x.text.length ≤ 200000 := fun x hx => txt_len (read_len HRD.out) hFm hx
        skip
        cases F with
        | nil => exact absurd rfl hne
        | cons f r =>
          have HTX := Lib.hid htxt
          clear hne htxt hFm
          obtain ⟨gl, rfl⟩ : ∃ g, lb = some ⟨g, 0, none⟩ := by rcases own_shape HW.out.out with ⟨_, e9⟩ | ⟨g9, c9, e9, _⟩; omega; exact ⟨g9, by simp at e9; exact e9.1⟩
          obtain ⟨la, lc, hrowc, hown⟩ := rows_at (HW.out.later hbel1) hF
          obtain ⟨fb, rfl, _, _, hfl, c0, c1, _⟩ := fld_at hown (f := f) (k := 0) rfl
          simp only [Nat.zero_mul, Nat.zero_add] at c0 c1
          obtain ⟨_, _, e9, hfr⟩ := rowR_of_own hown
          simp only [Value.slice.injEq, true_and] at e9
          obtain ⟨rfl, rfl⟩ := e9
          have HFR := Lib.hid hfr
          have hcapF : (f :: r).length ≤ lc ∧ lc ≤ 9223372036854775807 := by obtain ⟨_, h1, h2, _⟩ := HFR.out; unfold maxLen at h2; exact ⟨h1, h2⟩
          obtain ⟨hcF1, hcF2⟩ := hcapF
          have HFL := Lib.hid (fun u (hu : Below wr.heap.size wr u) (j : Nat) (x : FldV) (hx : (f :: r)[j]? = some x) => (show u.cell? ⟨fb, j * 3, none⟩ = some (.string (bA x.text)) from by obtain ⟨g7, e7, _, _, _, h7, _⟩ := fld_at (OwnR.later hown hu) hx; simp only [Option.some.injEq, Addr.mk.injEq, and_true] at e7; rw [e7]; exact h7))
          have hrlt : r.length = (f :: r).length - 1 := rfl
          obtain ⟨fl, hfle⟩ : ∃ n, (f :: r).length = n := ⟨_, rfl⟩
          have hrfl : r.length + 1 = fl := hfle
          rw [hfle] at hrowc hcF1
          clear hF hfr hown hfle hrlt
          have HFE := Lib.hid hrfl
          have h0F : (0 : Int) < (fl : Int) := by omega
          have hfl1 : 1 ≤ fl := by omega
          clear hrfl
          obtain ⟨wd, hwd⟩ : ∃ z, bA f.text = z := ⟨_, rfl⟩
          rw [hwd] at c0
          have HWD := Lib.hid (show wd.data.toList = f.text from by rw [← hwd]; exact bA_data _)
          clear hwd
          have HCE := Lib.hid (fun (x : Int) (hx : lineR s (f :: r) = .error x) => (show confF L = .error (f.line, x) from conf_err HCF.out HS.out HLN.out hx))
          have HR5 := Lib.hid (HR1.out.later hbel1)
          obtain ⟨fln, hfln⟩ : ∃ n, f.line = n := ⟨_, rfl⟩
          rw [hfln] at c1
          rw [hfln] at HCE
          clear hfln
          have HC0 := Lib.hid (keep c0)
          by_cases htk : f.text = tkw ∧ fl = 2
          · obtain ⟨htk1, htk2⟩ := htk
            have hst : (wd.toList == [116, 104, 114, 101, 115, 104, 111, 108, 100]) = true := by rw [ByteArray.toList_eq, HWD.out, htk1]; rfl
            obtain ⟨g, rfl⟩ : ∃ g, r = [g] := List.length_eq_one_iff.1 (by have := HFE.out; omega)
            have HTK := Lib.hid htk1
            subst htk2
            clear htk1
            have g0 := HFL.out wr (Below.refl _ _) 1 g rfl
            have CT := Lib.hid (ref_tRead (bA g.text) wr (by rw [bA_size]; exact Nat.le_trans (HTX.out g (List.mem_cons_of_mem _ List.mem_cons_self)) (by omega)))
            rw [show (bA g.text).toList = g.text from by rw [ByteArray.toList_eq, bA_data]] at CT
            cases htr : thF g.text with
            | none =>
              have HCX := Lib.hid (show lineR s [f, g] = .error 2 from by rw [lineR_thr s _ HTK.out, show thrR [g] = thF g.text from rfl, htr])
              have CTn := Lib.hid (CT.out.mono (fun e w2 (h : TRes g.text e ∧ Below wr.heap.size wr w2) => (⟨by rcases h.1 with ⟨t9, h8, _⟩ | ⟨_, h9⟩; rw [htr] at h8; cases h8; exact h9, h.2⟩ : e = .returned (.tuple #[.agg #[.int .i64 0, .int .i64 0, .int .i64 0, .bool false, .int .i64 0], .bool false]) ∧ Below wr.heap.size wr w2)))
              clear CT htr
              go_upto_region 14 with (go_at_call 19; (with_reducible refine (CTn.out).mono ?_); rintro e w6 ⟨rfl, hb_⟩; have HB6 := Lib.hid hb_; clear hb_ CTn)
              have kq := belAlloc (Below.refl w6.heap.size w6) (.cells #[.int .i64 0, .int .i64 0, .int .i64 0, .bool false, .int .i64 0] 54)
              have HR6 := Lib.hid ((HR5.out.later HB6.out).later kq)
              have HBW6 := Lib.hid (belStep (belStep HBw.out HB6.out) kq)
              clear kq
              generalize w6.alloc (.cells #[.int .i64 0, .int .i64 0, .int .i64 0, .bool false, .int .i64 0] 54) = w7 at *
              have z0 := HR6.out.cell (j := 0) rfl
              have z1 := HR6.out.cell (j := 1) rfl
              have z2 := HR6.out.cell (j := 2) rfl
              have z3 := HR6.out.cell (j := 3) rfl
              have z4 := HR6.out.cell (j := 4) rfl
              have z5 := HR6.out.cell (j := 5) rfl
              have z6 := HR6.out.cell (j := 6) rfl
              have z7 := HR6.out.cell (j := 7) rfl
              have z8 := HR6.out.cell (j := 8) rfl
              have z9 := HR6.out.cell (j := 9) rfl
              have z10 := HR6.out.cell (j := 10) rfl
              have zf := HR6.out.frozen
              go_wp2
              have hb10 := (belSet (belSet (belSet (belSet (belSet (belSet (belSet (belSet (belSet (belSet (belSet HBW6.out ⟨w.heap.size, 0, none⟩ (.int .i64 0) (Nat.le_refl _)) ⟨w.heap.size, 1, none⟩ (.int .i64 0) (Nat.le_refl _)) ⟨w.heap.size, 2, none⟩ (.int .i64 0) (Nat.le_refl _)) ⟨w.heap.size, 3, none⟩ (.int .i64 0) (Nat.le_refl _)) ⟨w.heap.size, 4, none⟩ (.int .i64 0) (Nat.le_refl _)) ⟨w.heap.size, 5, none⟩ (.int .i64 0) (Nat.le_refl _)) ⟨w.heap.size, 6, none⟩ (.slice none 0 0) (Nat.le_refl _)) ⟨w.heap.size, 7, none⟩ (.int .i64 0) (Nat.le_refl _)) ⟨w.heap.size, 8, none⟩ (.int .i64 0) (Nat.le_refl _)) ⟨w.heap.size, 9, none⟩ (.int .i64 0) (Nat.le_refl _)) ⟨w.heap.size, 10, none⟩ (.int .i64 0) (Nat.le_refl _))
              have hR10 := (((((((((((HR6.out.set 0 (.int .i64 0)).set 1 (.int .i64 0)).set 2 (.int .i64 0)).set 3 (.int .i64 0)).set 4 (.int .i64 0)).set 5 (.int .i64 0)).set 6 (.slice none 0 0)).set 7 (.int .i64 0)).set 8 (.int .i64 0)).set 9 (.int .i64 0)).set 10 (.int .i64 0))
              generalize (((((((((((w7.setCell ⟨w.heap.size, 0, none⟩ (.int .i64 0)).setCell ⟨w.heap.size, 1, none⟩ (.int .i64 0)).setCell ⟨w.heap.size, 2, none⟩ (.int .i64 0)).setCell ⟨w.heap.size, 3, none⟩ (.int .i64 0)).setCell ⟨w.heap.size, 4, none⟩ (.int .i64 0)).setCell ⟨w.heap.size, 5, none⟩ (.int .i64 0)).setCell ⟨w.heap.size, 6, none⟩ (.slice none 0 0)).setCell ⟨w.heap.size, 7, none⟩ (.int .i64 0)).setCell ⟨w.heap.size, 8, none⟩ (.int .i64 0)).setCell ⟨w.heap.size, 9, none⟩ (.int .i64 0)).setCell ⟨w.heap.size, 10, none⟩ (.int .i64 0)) = W10 at hb10 hR10 ⊢
              refine rf_ret7 w.heap.size W10 _ _ _ (CfM.zero) (.slice none 0 0) _ rfl rfl rfl hR10 ⟨?_, hb10⟩
              rw [(HCE.out _ HCX.out)]
              rfl
            | some t =>
              have htok : t.ok := thr_ok htr
              have HTR := Lib.hid htr
              have CTn := Lib.hid (CT.out.mono (fun e w2 (h : TRes g.text e ∧ Below wr.heap.size wr w2) => (⟨by rcases h.1 with ⟨t9, h8, h9⟩ | ⟨h8, _⟩; (rw [htr] at h8; obtain rfl := Option.some.inj h8; exact h9); (rw [htr] at h8; cases h8), h.2⟩ : e = .returned (.tuple #[.agg #[.int .i64 t.sig, .int .i64 t.pct, .int .i64 t.amt, .bool t.soft, .int .i64 t.grace], .bool true]) ∧ Below wr.heap.size wr w2)))
              clear CT htr
              go_upto_region 14 with (go_at_call 19; (with_reducible refine (CTn.out).mono ?_); rintro e w6 ⟨rfl, hb_⟩; have HB6 := Lib.hid hb_; clear hb_ CTn)
              have kq := belAlloc (Below.refl w6.heap.size w6) (.cells #[.int .i64 t.sig, .int .i64 t.pct, .int .i64 t.amt, .bool t.soft, .int .i64 t.grace] 54)
              have HRI6 := Lib.hid ((HRI.out.later HB6.out).later kq)
              have HTB := Lib.hid (Blk.new w6 [.int .i64 t.sig, .int .i64 t.pct, .int .i64 t.amt, .bool t.soft, .int .i64 t.grace] 54 : Blk (w6.alloc (.cells #[.int .i64 t.sig, .int .i64 t.pct, .int .i64 t.amt, .bool t.soft, .int .i64 t.grace] 54)) w6.heap.size [.int .i64 t.sig, .int .i64 t.pct, .int .i64 t.amt, .bool t.soft, .int .i64 t.grace] 54)
              clear kq
              generalize w6.alloc (.cells #[.int .i64 t.sig, .int .i64 t.pct, .int .i64 t.amt, .bool t.soft, .int .i64 t.grace] 54) = w7 at *
              generalize w6.heap.size = tb at *
              obtain ⟨ta, tc, hCb, hTo⟩ := HRI6.out.cfg
              have HCb := Lib.hid hCb
              have HTo := Lib.hid hTo
              clear hCb hTo
              have m6 := HCb.out.cell (j := 6) rfl
              have mf := HCb.out.frozen
              have x0 := HTB.out.cell (j := 0) rfl
              have x1 := HTB.out.cell (j := 1) rfl
              have x2 := HTB.out.cell (j := 2) rfl
              have x3 := HTB.out.cell (j := 3) rfl
              have x4 := HTB.out.cell (j := 4) rfl
              have hw7 : w1.heap.size ≤ w7.heap.size := HRI6.out.bel.size
              have hTl := HT.out
              have hLLn : LL.length ≤ 65537 := by have h2 := read_len HRD.out; have h3 := fields_le L; rw [HLL.out] at h3; omega
              have kA := belAlloc (Below.refl w7.heap.size w7) (.cells #[.int .i64 t.sig, .int .i64 t.pct, .int .i64 t.amt, .bool t.soft, .int .i64 t.grace] 54)
              have HOA := Lib.hid (OwnR.later HTo.out kA)
              have HCA := Lib.hid (HCb.out.later kA)
              have HRA := Lib.hid (row_new w7 [.int .i64 t.sig, .int .i64 t.pct, .int .i64 t.amt, .bool t.soft, .int .i64 t.grace] 54 1 5 rfl (by unfold maxLen; omega))
              have HKA := Lib.hid kA
              clear kA
              go_upto_region 17 with (at_builtin; (refine wpList_app_row rfl _ _ 25 rfl w1.heap.size 54 _ 5 40 Tryz.underlying25 info_thr rfl (by decide) _ _ _ rfl HOA.out _ 1 1 [.int .i64 t.sig, .int .i64 t.pct, .int .i64 t.amt, .bool t.soft, .int .i64 t.grace] rfl HRA.out (by simp [Value.oneCell']) ?c1 ?c2 ?c3 ?_))
              case c1 => unfold maxLen; omega
              case c2 => omega
              case c3 => have := HKA.out.size; omega
              intro v9 w9 ho9 hb9 hg9
              obtain ⟨va, vc, rfl, _⟩ := rowR_of_own ho9
              have HM9 := Lib.hid (HCA.out.grown hg9 (own_ne_blk HOA.out HCA.out (by decide)))
              clear x0 x1 x2 x3 x4 m6 mf
              have m6 := HM9.out.cell (j := 6) rfl
              have mf := HM9.out.frozen
              skip
              have hA9 : Apart (w1.heap.size :: (Value.slice ta s.c.T.length tc).ownBlock.toList) w7 w9 := (Apart.of_below HKA.out).trans (Apart.of_grown hg9 (fun b hb => List.mem_cons_of_mem _ (Option.mem_toList.2 hb)))
              have hA8 : Apart (w1.heap.size :: (Value.slice ta s.c.T.length tc).ownBlock.toList) w7 (w9.setCell ⟨w1.heap.size, 6, none⟩ (.slice va (s.c.T.length + 1) vc)) := hA9.set _ _ List.mem_cons_self
              have hC8 := HM9.out.set 6 (.slice va (s.c.T.length + 1) vc)
              have hO8 : OwnR (w9.setCell ⟨w1.heap.size, 6, none⟩ (.slice va (s.c.T.length + 1) vc)) w1.heap.size 54 5 (.slice va (s.c.T.length + 1) vc) (s.c.T ++ [t]).length ((s.c.T ++ [t]).flatMap ThrV.cells) := by
                have hne := own_ne_blk ho9 HM9.out (by decide)
                have h8 := own_same ho9 (x := w9.setCell ⟨w1.heap.size, 6, none⟩ (.slice va (s.c.T.length + 1) vc)) (fun g2 e9 => heap_set_ne _ _ _ _ (fun q => hne (by rw [e9, q])))
                have e9 : (s.c.T ++ [t]).flatMap ThrV.cells = s.c.T.flatMap ThrV.cells ++ [.int .i64 t.sig, .int .i64 t.pct, .int .i64 t.amt, .bool t.soft, .int .i64 t.grace] := by rw [List.flatMap_append]; simp [ThrV.cells]
                rw [e9, List.length_append]
                exact h8
              have HN8 := Lib.hid (HRI6.out.thr HCb.out HTo.out htok hC8 hO8 hA8)
              clear hA9 hA8 hC8 hO8 ho9 hb9 hg9
              go_wp2
              go_roundw
              case rel =>
                refine ⟨k + 1, { s with c := { s.c with T := s.c.T ++ [t] } }, by omega, by push_cast; rfl, Lib.hid (conf_step HS.out HLN.out (by rw [lineR_thr s _ HTK.out, show thrR [g] = thF g.text from rfl, HTR.out])), Lib.hid ?_, HN8⟩
                show (s.c.T ++ [t]).length ≤ k + 1
                rw [List.length_append]; have h1 := HT.out; simp; omega
              case measure => simp [intOf] <;> omega
          · by_cases htk1 : f.text = tkw
            · have htk2 : ¬ fl = 2 := fun e => htk ⟨htk1, e⟩
              have hst : (wd.toList == [116, 104, 114, 101, 115, 104, 111, 108, 100]) = true := by rw [ByteArray.toList_eq, HWD.out, htk1]; rfl
              have hf2 : ((fl : Int) == 2) = false := by rw [beq_eq_false_iff_ne]; omega
              have hf3 : ¬ (fl : Int) = 2 := by omega
              have hix : idxK f.text = none := by rw [htk1]; rfl
              have HNO := Lib.hid (show lineR s (f :: r) = .error 2 from by rw [lineR_thr s _ htk1]; unfold thrR; have h2 := HFE.out; (match r, h2 with | [], _ => rfl | [g], h2 => exact absurd h2 (by simp; omega) | _ :: _ :: _, _ => rfl))
              clear htk htk1 htk2
              generalize wr = WA at *
              have HIX := Lib.hid (show idxK f.text = none from hix)
              clear hix
              have HCW := Lib.hid (fun u (hu : Below WA.heap.size WA u) (j : Nat) (hj : j < 6) => (HRI.out.words.later hu).cell (show ([.string ⟨#[99, 97, 112, 97, 99, 105, 116, 121]⟩, .string ⟨#[97, 108, 108, 111, 99, 97, 116, 97, 98, 108, 101]⟩, .string ⟨#[112, 101, 114, 105, 111, 100]⟩, .string ⟨#[114, 101, 116, 114, 105, 101, 115]⟩, .string ⟨#[109, 97, 120, 97, 103, 101]⟩, .string ⟨#[100, 101, 97, 100]⟩] : List Value)[j]? = some (.string (kwB j)) from by rcases (show j = 0 ∨ j = 1 ∨ j = 2 ∨ j = 3 ∨ j = 4 ∨ j = 5 by omega) with rfl | rfl | rfl | rfl | rfl | rfl <;> rfl))
              go_wp2
              go_loopw [14, 15] (fun kv jv u => ∃ (j : Nat), j ≤ 6 ∧ kv = .int .i64 (kiR (none) j) ∧ jv = .int .i64 j ∧ Below WA.heap.size WA u) (fun _ jv _ => 6 - (intOf jv).toNat)
              case atStart => exact ⟨0, by omega, by rw [kiR_zero], rfl, Below.refl _ _⟩
              case round =>
                clear c0 c1
                obtain ⟨j, hj6, rfl, rfl, hbj⟩ := hrel
                by_cases hj : j < 6
                · have hjd : decide ((j : Int) < 6) = true := decide_eq_true (by omega)
                  have hji : (j : Int) < 6 := by omega
                  have hj0 : (0 : Int) ≤ (j : Int) := by omega
                  have q0 := HC0.out _ hbj
                  have qw := HCW.out _ hbj j hj
                  generalize hkn : kiR (none) j = kn at *
                  by_cases hjk : none = some j
                  · have HKH := Lib.hid (show kiR (none) (j + 1) = (j : Int) from by rw [hjk]; exact kiR_hit)
                    have hkw : kwB j = wd := (kw_eq hj).2 (by rw [HWD.out]; exact HIX.out.trans hjk)
                    rw [hkw] at qw
                    have hcmp2 : (wd.toList == wd.toList) = true := by simp
                    clear hjk hkw hkn
                    go_upto_region 21 with fail
                    go_region
                    replace hbj := belDrew hbj
                    go_wp2
                    go_roundw
                    case rel => exact ⟨j + 1, by omega, by rw [HKH.out], by push_cast; rfl, hbj⟩
                    case measure => simp [intOf] <;> omega
                  · have HKH := Lib.hid ((kiR_miss hjk).trans hkn)
                    have hkw : kwB j ≠ wd := fun e => hjk (HIX.out.symm.trans (by rw [← HWD.out]; exact (kw_eq hj).1 e))
                    clear hjk hkn
                    generalize kwB j = kj at *
                    have hcmp2 : (kj.toList == wd.toList) = false := by rw [beq_eq_false_iff_ne]; intro e; exact hkw (bA_extL (by rw [ByteArray.toList_eq, ByteArray.toList_eq] at e; exact e))
                    clear hkw
                    go_upto_region 21 with fail
                    go_region
                    replace hbj := belDrew hbj
                    go_wp2
                    go_roundw
                    case rel => exact ⟨j + 1, by omega, by rw [HKH.out], by push_cast; rfl, hbj⟩
                    case measure => simp [intOf] <;> omega
                · obtain rfl : j = 6 := by omega
                  have hjd : decide (((6 : Nat) : Int) < 6) = false := by decide
                  generalize hk7 : kiR (none : Option Nat) 6 = kn at *
                  obtain rfl : kn = -1 := hk7.symm.trans rfl
                  clear hk7
                  have HR7 := Lib.hid (HR5.out.later hbj)
                  have HB7 := Lib.hid (belStep HBw.out hbj)
                  have z0 := HR7.out.cell (j := 0) rfl
                  have z1 := HR7.out.cell (j := 1) rfl
                  have z2 := HR7.out.cell (j := 2) rfl
                  have z3 := HR7.out.cell (j := 3) rfl
                  have z4 := HR7.out.cell (j := 4) rfl
                  have z5 := HR7.out.cell (j := 5) rfl
                  have z6 := HR7.out.cell (j := 6) rfl
                  have z7 := HR7.out.cell (j := 7) rfl
                  have z8 := HR7.out.cell (j := 8) rfl
                  have z9 := HR7.out.cell (j := 9) rfl
                  have z10 := HR7.out.cell (j := 10) rfl
                  have zf := HR7.out.frozen
                  go_wp2
                  have hb10 := (belSet (belSet (belSet (belSet (belSet (belSet (belSet (belSet (belSet (belSet (belSet HB7.out ⟨w.heap.size, 0, none⟩ (.int .i64 0) (Nat.le_refl _)) ⟨w.heap.size, 1, none⟩ (.int .i64 0) (Nat.le_refl _)) ⟨w.heap.size, 2, none⟩ (.int .i64 0) (Nat.le_refl _)) ⟨w.heap.size, 3, none⟩ (.int .i64 0) (Nat.le_refl _)) ⟨w.heap.size, 4, none⟩ (.int .i64 0) (Nat.le_refl _)) ⟨w.heap.size, 5, none⟩ (.int .i64 0) (Nat.le_refl _)) ⟨w.heap.size, 6, none⟩ (.slice none 0 0) (Nat.le_refl _)) ⟨w.heap.size, 7, none⟩ (.int .i64 0) (Nat.le_refl _)) ⟨w.heap.size, 8, none⟩ (.int .i64 0) (Nat.le_refl _)) ⟨w.heap.size, 9, none⟩ (.int .i64 0) (Nat.le_refl _)) ⟨w.heap.size, 10, none⟩ (.int .i64 0) (Nat.le_refl _))
                  have hR10 := (((((((((((HR7.out.set 0 (.int .i64 0)).set 1 (.int .i64 0)).set 2 (.int .i64 0)).set 3 (.int .i64 0)).set 4 (.int .i64 0)).set 5 (.int .i64 0)).set 6 (.slice none 0 0)).set 7 (.int .i64 0)).set 8 (.int .i64 0)).set 9 (.int .i64 0)).set 10 (.int .i64 0))
                  generalize (((((((((((wr.setCell ⟨w.heap.size, 0, none⟩ (.int .i64 0)).setCell ⟨w.heap.size, 1, none⟩ (.int .i64 0)).setCell ⟨w.heap.size, 2, none⟩ (.int .i64 0)).setCell ⟨w.heap.size, 3, none⟩ (.int .i64 0)).setCell ⟨w.heap.size, 4, none⟩ (.int .i64 0)).setCell ⟨w.heap.size, 5, none⟩ (.int .i64 0)).setCell ⟨w.heap.size, 6, none⟩ (.slice none 0 0)).setCell ⟨w.heap.size, 7, none⟩ (.int .i64 0)).setCell ⟨w.heap.size, 8, none⟩ (.int .i64 0)).setCell ⟨w.heap.size, 9, none⟩ (.int .i64 0)).setCell ⟨w.heap.size, 10, none⟩ (.int .i64 0)) = W10 at hb10 hR10 ⊢
                  refine rf_ret7 w.heap.size W10 _ _ _ (CfM.zero) (.slice none 0 0) _ rfl rfl rfl hR10 ⟨?_, hb10⟩
                  rw [(HCE.out _ HNO.out)]
                  rfl
            · have hst : (wd.toList == [116, 104, 114, 101, 115, 104, 111, 108, 100]) = false := by rw [ByteArray.toList_eq, HWD.out, beq_eq_false_iff_ne]; exact htk1
              have HTK := Lib.hid htk1
              clear htk htk1
              cases hix : idxK f.text with
              | none =>
                have HNO := Lib.hid (lineR_no s r HTK.out hix)
                generalize wr = WA at *
                have HIX := Lib.hid (show idxK f.text = none from hix)
                clear hix
                have HCW := Lib.hid (fun u (hu : Below WA.heap.size WA u) (j : Nat) (hj : j < 6) => (HRI.out.words.later hu).cell (show ([.string ⟨#[99, 97, 112, 97, 99, 105, 116, 121]⟩, .string ⟨#[97, 108, 108, 111, 99, 97, 116, 97, 98, 108, 101]⟩, .string ⟨#[112, 101, 114, 105, 111, 100]⟩, .string ⟨#[114, 101, 116, 114, 105, 101, 115]⟩, .string ⟨#[109, 97, 120, 97, 103, 101]⟩, .string ⟨#[100, 101, 97, 100]⟩] : List Value)[j]? = some (.string (kwB j)) from by rcases (show j = 0 ∨ j = 1 ∨ j = 2 ∨ j = 3 ∨ j = 4 ∨ j = 5 by omega) with rfl | rfl | rfl | rfl | rfl | rfl <;> rfl))
                go_wp2
                go_loopw [14, 15] (fun kv jv u => ∃ (j : Nat), j ≤ 6 ∧ kv = .int .i64 (kiR (none) j) ∧ jv = .int .i64 j ∧ Below WA.heap.size WA u) (fun _ jv _ => 6 - (intOf jv).toNat)
                case atStart => exact ⟨0, by omega, by rw [kiR_zero], rfl, Below.refl _ _⟩
                case round =>
                  clear c0 c1
                  obtain ⟨j, hj6, rfl, rfl, hbj⟩ := hrel
                  by_cases hj : j < 6
                  · have hjd : decide ((j : Int) < 6) = true := decide_eq_true (by omega)
                    have hji : (j : Int) < 6 := by omega
                    have hj0 : (0 : Int) ≤ (j : Int) := by omega
                    have q0 := HC0.out _ hbj
                    have qw := HCW.out _ hbj j hj
                    generalize hkn : kiR (none) j = kn at *
                    by_cases hjk : none = some j
                    · have HKH := Lib.hid (show kiR (none) (j + 1) = (j : Int) from by rw [hjk]; exact kiR_hit)
                      have hkw : kwB j = wd := (kw_eq hj).2 (by rw [HWD.out]; exact HIX.out.trans hjk)
                      rw [hkw] at qw
                      have hcmp2 : (wd.toList == wd.toList) = true := by simp
                      clear hjk hkw hkn
                      go_upto_region 21 with fail
                      go_region
                      replace hbj := belDrew hbj
                      go_wp2
                      go_roundw
                      case rel => exact ⟨j + 1, by omega, by rw [HKH.out], by push_cast; rfl, hbj⟩
                      case measure => simp [intOf] <;> omega
                    · have HKH := Lib.hid ((kiR_miss hjk).trans hkn)
                      have hkw : kwB j ≠ wd := fun e => hjk (HIX.out.symm.trans (by rw [← HWD.out]; exact (kw_eq hj).1 e))
                      clear hjk hkn
                      generalize kwB j = kj at *
                      have hcmp2 : (kj.toList == wd.toList) = false := by rw [beq_eq_false_iff_ne]; intro e; exact hkw (bA_extL (by rw [ByteArray.toList_eq, ByteArray.toList_eq] at e; exact e))
                      clear hkw
                      go_upto_region 21 with fail
                      go_region
                      replace hbj := belDrew hbj
                      go_wp2
                      go_roundw
                      case rel => exact ⟨j + 1, by omega, by rw [HKH.out], by push_cast; rfl, hbj⟩
                      case measure => simp [intOf] <;> omega
                  · obtain rfl : j = 6 := by omega
                    have hjd : decide (((6 : Nat) : Int) < 6) = false := by decide
                    generalize hk7 : kiR (none : Option Nat) 6 = kn at *
                    obtain rfl : kn = -1 := hk7.symm.trans rfl
                    clear hk7
                    have HR7 := Lib.hid (HR5.out.later hbj)
                    have HB7 := Lib.hid (belStep HBw.out hbj)
                    have z0 := HR7.out.cell (j := 0) rfl
                    have z1 := HR7.out.cell (j := 1) rfl
                    have z2 := HR7.out.cell (j := 2) rfl
                    have z3 := HR7.out.cell (j := 3) rfl
                    have z4 := HR7.out.cell (j := 4) rfl
                    have z5 := HR7.out.cell (j := 5) rfl
                    have z6 := HR7.out.cell (j := 6) rfl
                    have z7 := HR7.out.cell (j := 7) rfl
                    have z8 := HR7.out.cell (j := 8) rfl
                    have z9 := HR7.out.cell (j := 9) rfl
                    have z10 := HR7.out.cell (j := 10) rfl
                    have zf := HR7.out.frozen
                    go_wp2
                    have hb10 := (belSet (belSet (belSet (belSet (belSet (belSet (belSet (belSet (belSet (belSet (belSet HB7.out ⟨w.heap.size, 0, none⟩ (.int .i64 0) (Nat.le_refl _)) ⟨w.heap.size, 1, none⟩ (.int .i64 0) (Nat.le_refl _)) ⟨w.heap.size, 2, none⟩ (.int .i64 0) (Nat.le_refl _)) ⟨w.heap.size, 3, none⟩ (.int .i64 0) (Nat.le_refl _)) ⟨w.heap.size, 4, none⟩ (.int .i64 0) (Nat.le_refl _)) ⟨w.heap.size, 5, none⟩ (.int .i64 0) (Nat.le_refl _)) ⟨w.heap.size, 6, none⟩ (.slice none 0 0) (Nat.le_refl _)) ⟨w.heap.size, 7, none⟩ (.int .i64 0) (Nat.le_refl _)) ⟨w.heap.size, 8, none⟩ (.int .i64 0) (Nat.le_refl _)) ⟨w.heap.size, 9, none⟩ (.int .i64 0) (Nat.le_refl _)) ⟨w.heap.size, 10, none⟩ (.int .i64 0) (Nat.le_refl _))
                    have hR10 := (((((((((((HR7.out.set 0 (.int .i64 0)).set 1 (.int .i64 0)).set 2 (.int .i64 0)).set 3 (.int .i64 0)).set 4 (.int .i64 0)).set 5 (.int .i64 0)).set 6 (.slice none 0 0)).set 7 (.int .i64 0)).set 8 (.int .i64 0)).set 9 (.int .i64 0)).set 10 (.int .i64 0))
                    generalize (((((((((((wr.setCell ⟨w.heap.size, 0, none⟩ (.int .i64 0)).setCell ⟨w.heap.size, 1, none⟩ (.int .i64 0)).setCell ⟨w.heap.size, 2, none⟩ (.int .i64 0)).setCell ⟨w.heap.size, 3, none⟩ (.int .i64 0)).setCell ⟨w.heap.size, 4, none⟩ (.int .i64 0)).setCell ⟨w.heap.size, 5, none⟩ (.int .i64 0)).setCell ⟨w.heap.size, 6, none⟩ (.slice none 0 0)).setCell ⟨w.heap.size, 7, none⟩ (.int .i64 0)).setCell ⟨w.heap.size, 8, none⟩ (.int .i64 0)).setCell ⟨w.heap.size, 9, none⟩ (.int .i64 0)).setCell ⟨w.heap.size, 10, none⟩ (.int .i64 0)) = W10 at hb10 hR10 ⊢
                    refine rf_ret7 w.heap.size W10 _ _ _ (CfM.zero) (.slice none 0 0) _ rfl rfl rfl hR10 ⟨?_, hb10⟩
                    rw [(HCE.out _ HNO.out)]
                    rfl
              | some kk =>
                have hk6 : kk < 6 := (idx_kw (s := bA f.text) (by rw [bA_data]; exact hix)).1
                generalize wr = WA at *
                have HIX := Lib.hid (show idxK f.text = some kk from hix)
                clear hix
                have HCW := Lib.hid (fun u (hu : Below WA.heap.size WA u) (j : Nat) (hj : j < 6) => (HRI.out.words.later hu).cell (show ([.string ⟨#[99, 97, 112, 97, 99, 105, 116, 121]⟩, .string ⟨#[97, 108, 108, 111, 99, 97, 116, 97, 98, 108, 101]⟩, .string ⟨#[112, 101, 114, 105, 111, 100]⟩, .string ⟨#[114, 101, 116, 114, 105, 101, 115]⟩, .string ⟨#[109, 97, 120, 97, 103, 101]⟩, .string ⟨#[100, 101, 97, 100]⟩] : List Value)[j]? = some (.string (kwB j)) from by rcases (show j = 0 ∨ j = 1 ∨ j = 2 ∨ j = 3 ∨ j = 4 ∨ j = 5 by omega) with rfl | rfl | rfl | rfl | rfl | rfl <;> rfl))
                go_wp2
                go_loopw [14, 15] (fun kv jv u => ∃ (j : Nat), j ≤ 6 ∧ kv = .int .i64 (kiR (some kk) j) ∧ jv = .int .i64 j ∧ Below WA.heap.size WA u) (fun _ jv _ => 6 - (intOf jv).toNat)
                case atStart => exact ⟨0, by omega, by rw [kiR_zero], rfl, Below.refl _ _⟩
                case round =>
                  clear c0 c1
                  obtain ⟨j, hj6, rfl, rfl, hbj⟩ := hrel
                  by_cases hj : j < 6
                  · have hjd : decide ((j : Int) < 6) = true := decide_eq_true (by omega)
                    have hji : (j : Int) < 6 := by omega
                    have hj0 : (0 : Int) ≤ (j : Int) := by omega
                    have q0 := HC0.out _ hbj
                    have qw := HCW.out _ hbj j hj
                    generalize hkn : kiR (some kk) j = kn at *
                    by_cases hjk : some kk = some j
                    · have HKH := Lib.hid (show kiR (some kk) (j + 1) = (j : Int) from by rw [hjk]; exact kiR_hit)
                      have hkw : kwB j = wd := (kw_eq hj).2 (by rw [HWD.out]; exact HIX.out.trans hjk)
                      rw [hkw] at qw
                      have hcmp2 : (wd.toList == wd.toList) = true := by simp
                      clear hjk hkw hkn
                      go_upto_region 21 with fail
                      go_region
                      replace hbj := belDrew hbj
                      go_wp2
                      go_roundw
                      case rel => exact ⟨j + 1, by omega, by rw [HKH.out], by push_cast; rfl, hbj⟩
                      case measure => simp [intOf] <;> omega
                    · have HKH := Lib.hid ((kiR_miss hjk).trans hkn)
                      have hkw : kwB j ≠ wd := fun e => hjk (HIX.out.symm.trans (by rw [← HWD.out]; exact (kw_eq hj).1 e))
                      clear hjk hkn
                      generalize kwB j = kj at *
                      have hcmp2 : (kj.toList == wd.toList) = false := by rw [beq_eq_false_iff_ne]; intro e; exact hkw (bA_extL (by rw [ByteArray.toList_eq, ByteArray.toList_eq] at e; exact e))
                      clear hkw
                      go_upto_region 21 with fail
                      go_region
                      replace hbj := belDrew hbj
                      go_wp2
                      go_roundw
                      case rel => exact ⟨j + 1, by omega, by rw [HKH.out], by push_cast; rfl, hbj⟩
                      case measure => simp [intOf] <;> omega
                  · obtain rfl : j = 6 := by omega
                    have hjd : decide (((6 : Nat) : Int) < 6) = false := by decide
                    generalize wr = WR at *
                    generalize hk7 : kiR (some kk) 6 = kn at *
                    obtain rfl : kn = (kk : Int) := hk7.symm.trans (kiR_all hk6)
                    clear hk7
                    have HR7 := Lib.hid (HR5.out.later hbj)
                    have HB7 := Lib.hid (belStep HBw.out hbj)
                    have HRI7 := Lib.hid (HRI.out.later hbj)
                    have HFL7 := Lib.hid (fun u (hu : Below WR.heap.size WR u) => HFL.out u (belStep hbj hu))
                    clear hbj
                    have kd0 : decide ((kk : Int) < 0) = false := decide_eq_false (by omega)
                    have ki0 : ¬ (kk : Int) < 0 := by omega
                    have kig : (0 : Int) ≤ (kk : Int) := by omega
                    have kil : (kk : Int) < 6 := by omega
                    by_cases hcnt : r.length = needN kk
                    · by_cases hk2 : kk < 2
                      · have kd2 : decide ((kk : Int) < 2) = true := decide_eq_true (by omega)
                        have kg2 : decide ((2 : Int) ≤ (kk : Int)) = false := decide_eq_false (by omega)
                        have kx2 : (kk : Int) < 2 := by omega
                        have ky2 : ¬ (2 : Int) ≤ (kk : Int) := by omega
                        have hnef := HFE.out
                        have hnk : needN kk = 3 := by unfold needN; rw [if_pos (by omega)]
                        have kl : ((fl : Int) == 4) = true := by rw [beq_iff_eq]; omega
                        have kl3 : ((fl : Int) != 4) = false := by rw [bne_eq_false_iff_eq]; omega
                        have hfl4 : fl ≤ 4 := by omega
                        clear hnef hnk hk2
                        have HCN := Lib.hid hcnt
                        clear hcnt
                        go_wp2
                        go_loopw [16, 17] (fun nv mv u => ∃ (m : Nat), 1 ≤ m ∧ m ≤ fl ∧ mv = .int .i64 m ∧ Hid (numsOk (r.take (m - 1)) = true) ∧ Hid (OwnI u WR.heap.size 3 .i64 nv (numsF (r.take (m - 1)))) ∧ Below WR.heap.size WR u) (fun _ mv _ => fl - (intOf mv).toNat)
                        case atStart => exact ⟨1, Nat.le_refl _, hfl1, rfl, Lib.hid rfl, Lib.hid (OwnI.nil _ _ _ _), Below.refl _ _⟩
                        case round =>
                          obtain ⟨m, hm1, hm2, rfl, HOK, HOW, hbm⟩ := hrel
                          by_cases hml : m < fl
                          · have hmd : decide ((m : Int) < (fl : Int)) = true := decide_eq_true (by omega)
                            have hmi : (m : Int) < (fl : Int) := by omega
                            have hm0 : (0 : Int) ≤ (m : Int) := by omega
                            obtain ⟨x, hx⟩ : ∃ x, r[m - 1]? = some x := ⟨_, List.getElem?_eq_getElem (by have := HFE.out; omega)⟩
                            have hx2 : (f :: r)[m]? = some x := by obtain ⟨m9, rfl⟩ : ∃ m9, m = m9 + 1 := ⟨m - 1, by omega⟩; rw [List.getElem?_cons_succ]; exact hx
                            have g0 := HFL7.out _ hbm m x hx2
                            have hxl := HTX.out x (List.mem_of_getElem? hx2)
                            have HXN := Lib.hid (numsF_next hx)
                            have HXM := Lib.hid (numsOk_next hx)
                            have HXB := Lib.hid (List.mem_of_getElem? hx : x ∈ r)
                            clear hx hx2
                            obtain ⟨xt, hxt⟩ : ∃ z, bA x.text = z := ⟨_, rfl⟩
                            have CQ := Lib.hid (fun u => ref_qRead (bA x.text) u (by rw [bA_size]; unfold maxLen; omega))
                            rw [show (bA x.text).toList = x.text from by rw [ByteArray.toList_eq, bA_data]] at CQ
                            rw [hxt] at CQ g0
                            clear hxt
                            cases hqo : qOk x.text with
                            | false =>
                              have HNO := Lib.hid (lineR_bad s r HTK.out HIX.out (by rw [numsOk_no HXB.out hqo, Bool.and_false]))
                              rw [hqo] at CQ
                              clear hqo
                              go_upto_region 31 with (go_at_call 20; (with_reducible refine (CQ.out _).mono ?_); rintro e w8 ⟨rfl, hb_⟩; have HB8 := Lib.hid (belStep hbm hb_); clear hb_)
                              have HR8 := Lib.hid (HR7.out.later HB8.out)
                              have HBW8 := Lib.hid (belStep HB7.out HB8.out)
                              have z0 := HR8.out.cell (j := 0) rfl
                              have z1 := HR8.out.cell (j := 1) rfl
                              have z2 := HR8.out.cell (j := 2) rfl
                              have z3 := HR8.out.cell (j := 3) rfl
                              have z4 := HR8.out.cell (j := 4) rfl
                              have z5 := HR8.out.cell (j := 5) rfl
                              have z6 := HR8.out.cell (j := 6) rfl
                              have z7 := HR8.out.cell (j := 7) rfl
                              have z8 := HR8.out.cell (j := 8) rfl
                              have z9 := HR8.out.cell (j := 9) rfl
                              have z10 := HR8.out.cell (j := 10) rfl
                              have zf := HR8.out.frozen
                              go_wp2
                              have hb10 := (belSet (belSet (belSet (belSet (belSet (belSet (belSet (belSet (belSet (belSet (belSet HBW8.out ⟨w.heap.size, 0, none⟩ (.int .i64 0) (Nat.le_refl _)) ⟨w.heap.size, 1, none⟩ (.int .i64 0) (Nat.le_refl _)) ⟨w.heap.size, 2, none⟩ (.int .i64 0) (Nat.le_refl _)) ⟨w.heap.size, 3, none⟩ (.int .i64 0) (Nat.le_refl _)) ⟨w.heap.size, 4, none⟩ (.int .i64 0) (Nat.le_refl _)) ⟨w.heap.size, 5, none⟩ (.int .i64 0) (Nat.le_refl _)) ⟨w.heap.size, 6, none⟩ (.slice none 0 0) (Nat.le_refl _)) ⟨w.heap.size, 7, none⟩ (.int .i64 0) (Nat.le_refl _)) ⟨w.heap.size, 8, none⟩ (.int .i64 0) (Nat.le_refl _)) ⟨w.heap.size, 9, none⟩ (.int .i64 0) (Nat.le_refl _)) ⟨w.heap.size, 10, none⟩ (.int .i64 0) (Nat.le_refl _))
                              have hR10 := (((((((((((HR8.out.set 0 (.int .i64 0)).set 1 (.int .i64 0)).set 2 (.int .i64 0)).set 3 (.int .i64 0)).set 4 (.int .i64 0)).set 5 (.int .i64 0)).set 6 (.slice none 0 0)).set 7 (.int .i64 0)).set 8 (.int .i64 0)).set 9 (.int .i64 0)).set 10 (.int .i64 0))
                              generalize (((((((((((w8.setCell ⟨w.heap.size, 0, none⟩ (.int .i64 0)).setCell ⟨w.heap.size, 1, none⟩ (.int .i64 0)).setCell ⟨w.heap.size, 2, none⟩ (.int .i64 0)).setCell ⟨w.heap.size, 3, none⟩ (.int .i64 0)).setCell ⟨w.heap.size, 4, none⟩ (.int .i64 0)).setCell ⟨w.heap.size, 5, none⟩ (.int .i64 0)).setCell ⟨w.heap.size, 6, none⟩ (.slice none 0 0)).setCell ⟨w.heap.size, 7, none⟩ (.int .i64 0)).setCell ⟨w.heap.size, 8, none⟩ (.int .i64 0)).setCell ⟨w.heap.size, 9, none⟩ (.int .i64 0)).setCell ⟨w.heap.size, 10, none⟩ (.int .i64 0)) = W10 at hb10 hR10 ⊢
                              refine rf_ret7 w.heap.size W10 _ _ _ (CfM.zero) (.slice none 0 0) _ rfl rfl rfl hR10 ⟨?_, hb10⟩
                              rw [(HCE.out _ HNO.out)]
                              rfl
                            | true =>
                              rw [hqo] at CQ
                              have HOK2 := Lib.hid (show numsOk (r.take (m + 1 - 1)) = true from by rw [show m + 1 - 1 = (m - 1) + 1 by omega, HXM.out, HOK.out, hqo]; rfl)
                              have HQN := Lib.hid (show qN x.text = qNum x.text from by unfold qN; rw [hqo]; rfl)
                              clear hqo
                              rw [HQN.out] at CQ
                              have hnl : (numsF (r.take (m - 1))).length ≤ 4 := by rw [numsF_len, List.length_take]; omega
                              generalize hnn : numsF (r.take (m - 1)) = N at *
                              have HNN := Lib.hid hnn
                              clear hnn
                              go_wp2_with (first | (go_at_call 20; (with_reducible refine (CQ.out _).mono ?_); rintro e w8 ⟨rfl, hb_⟩; have HOW8 := Lib.hid (OwnI.later HOW.out hb_); have HB8 := Lib.hid (belStep hbm hb_); clear hb_) | (at_builtin; refine wpList_app_one rfl _ _ 57 rfl WR.heap.size 3 .i64 8 Tryz.underlying57 info_intC _ _ rfl (HOW8.out.alloc (.cells #[.int .i64 (qNum x.text)] 3)) _ _ rfl (by simp; rfl) (by unfold maxLen; omega) (by omega) (by have := HB8.out.size; simp; omega) ?_; intro v4 w9 ho4 hb4 hg4 hm4; have HO4 := Lib.hid ho4; have HB4 := Lib.hid ((belAlloc HB8.out _).trans hb4); clear ho4 hb4 hg4 hm4))
                              go_roundw
                              case rel => exact ⟨m + 1, by omega, by omega, by push_cast; rfl, HOK2, Lib.hid (by rw [show m + 1 - 1 = (m - 1) + 1 by omega, HXN.out]; exact HO4.out), HB4.out⟩
                              case measure => simp [intOf] <;> omega
                          · obtain rfl : m = fl := by omega
                            have hmd : decide ((m : Int) < (m : Int)) = false := decide_eq_false (by omega)
                            have hmi : ¬ (m : Int) < (m : Int) := by omega
                            have hall : r.take (m - 1) = r := List.take_of_length_le (by have := HFE.out; omega)
                            rw [hall] at HOK HOW
                            have HQ := Lib.hid (show (decide (r.length = needN kk) && numsOk r) = true from by rw [decide_eq_true HCN.out, HOK.out]; rfl)
                            have hnl : (numsF r).length = needN kk := by rw [numsF_len]; exact HCN.out
                            have HNL := Lib.hid hnl
                            clear hnl hall
                            obtain ⟨na, nc, rfl, _⟩ := ints_of_own HOW.out (nums_wfC r)
                            have HRI8 := Lib.hid (HRI7.out.later hbm)
                            have HR8 := Lib.hid (HR7.out.later hbm)
                            have HB8 := Lib.hid (belStep HB7.out hbm)
                            clear hbm
                            generalize wr = WN at *
                            obtain ⟨nn, hnn⟩ : ∃ n, (numsF r).length = n := ⟨_, rfl⟩
                            rw [hnn] at HOW ⊢
                            have HNN := Lib.hid hnn
                            clear hnn
                            have sk := HRI8.out.seen.cell (seenL_at s.U hk6)
                            have sf := HRI8.out.seen.frozen
                            by_cases hU : kk ∈ s.U
                            · have HNO := Lib.hid (lineR_two s r HTK.out HIX.out HQ.out hU)
                              rw [decide_eq_true hU] at sk
                              clear hU
                              have z0 := HR8.out.cell (j := 0) rfl
                              have z1 := HR8.out.cell (j := 1) rfl
                              have z2 := HR8.out.cell (j := 2) rfl
                              have z3 := HR8.out.cell (j := 3) rfl
                              have z4 := HR8.out.cell (j := 4) rfl
                              have z5 := HR8.out.cell (j := 5) rfl
                              have z6 := HR8.out.cell (j := 6) rfl
                              have z7 := HR8.out.cell (j := 7) rfl
                              have z8 := HR8.out.cell (j := 8) rfl
                              have z9 := HR8.out.cell (j := 9) rfl
                              have z10 := HR8.out.cell (j := 10) rfl
                              have zf := HR8.out.frozen
                              go_wp2
                              have hb10 := (belSet (belSet (belSet (belSet (belSet (belSet (belSet (belSet (belSet (belSet (belSet HB8.out ⟨w.heap.size, 0, none⟩ (.int .i64 0) (Nat.le_refl _)) ⟨w.heap.size, 1, none⟩ (.int .i64 0) (Nat.le_refl _)) ⟨w.heap.size, 2, none⟩ (.int .i64 0) (Nat.le_refl _)) ⟨w.heap.size, 3, none⟩ (.int .i64 0) (Nat.le_refl _)) ⟨w.heap.size, 4, none⟩ (.int .i64 0) (Nat.le_refl _)) ⟨w.heap.size, 5, none⟩ (.int .i64 0) (Nat.le_refl _)) ⟨w.heap.size, 6, none⟩ (.slice none 0 0) (Nat.le_refl _)) ⟨w.heap.size, 7, none⟩ (.int .i64 0) (Nat.le_refl _)) ⟨w.heap.size, 8, none⟩ (.int .i64 0) (Nat.le_refl _)) ⟨w.heap.size, 9, none⟩ (.int .i64 0) (Nat.le_refl _)) ⟨w.heap.size, 10, none⟩ (.int .i64 0) (Nat.le_refl _))
                              have hR10 := (((((((((((HR8.out.set 0 (.int .i64 0)).set 1 (.int .i64 0)).set 2 (.int .i64 0)).set 3 (.int .i64 0)).set 4 (.int .i64 0)).set 5 (.int .i64 0)).set 6 (.slice none 0 0)).set 7 (.int .i64 0)).set 8 (.int .i64 0)).set 9 (.int .i64 0)).set 10 (.int .i64 0))
                              generalize (((((((((((WN.setCell ⟨w.heap.size, 0, none⟩ (.int .i64 0)).setCell ⟨w.heap.size, 1, none⟩ (.int .i64 0)).setCell ⟨w.heap.size, 2, none⟩ (.int .i64 0)).setCell ⟨w.heap.size, 3, none⟩ (.int .i64 0)).setCell ⟨w.heap.size, 4, none⟩ (.int .i64 0)).setCell ⟨w.heap.size, 5, none⟩ (.int .i64 0)).setCell ⟨w.heap.size, 6, none⟩ (.slice none 0 0)).setCell ⟨w.heap.size, 7, none⟩ (.int .i64 0)).setCell ⟨w.heap.size, 8, none⟩ (.int .i64 0)).setCell ⟨w.heap.size, 9, none⟩ (.int .i64 0)).setCell ⟨w.heap.size, 10, none⟩ (.int .i64 0)) = W10 at hb10 hR10 ⊢
                              refine rf_ret7 w.heap.size W10 _ _ _ (CfM.zero) (.slice none 0 0) _ rfl rfl rfl hR10 ⟨?_, hb10⟩
                              rw [(HCE.out _ HNO.out)]
                              rfl
                            · have HST := Lib.hid (lineR_ok s r HTK.out HIX.out HQ.out hU)
                              have HU := Lib.hid hU
                              rw [decide_eq_false hU] at sk
                              clear hU
                              obtain ⟨ta, tc, hCb, hTo⟩ := HRI8.out.cfg
                              have HCb := Lib.hid hCb
                              have HTo := Lib.hid hTo
                              clear hCb hTo
                              go_upto_region 36 with fail
                              have hne6 : S6 ≠ w1.heap.size := fun e => by have h1 := HRI8.out.seen; rw [e] at h1; exact absurd (h1.type HCb.out) (by decide)
                              have hA1 : Apart [w1.heap.size, S6] WN (WN.setCell ⟨S6, kk, none⟩ (.bool true)) := (Apart.refl _ _).set _ _ (by simp)
                              have HS9 := Lib.hid (show Blk (WN.setCell ⟨S6, kk, none⟩ (.bool true)) S6 (seenL (s.U ++ [kk])) 50 from by rw [← seenL_set s.U hk6]; exact HRI8.out.seen.set kk (.bool true))
                              have HC9 := Lib.hid (blk_far HCb.out ⟨S6, kk, none⟩ hne6 (.bool true))
                              have HO9 := Lib.hid (own_far (E := 3) HOW.out HRI8.out.seen (by decide) ⟨S6, kk, none⟩ rfl (.bool true))
                              have HA1 := Lib.hid hA1
                              clear sk sf hA1
                              generalize WN.setCell ⟨S6, kk, none⟩ (.bool true) = W9 at *
                              have HRN := Lib.hid (show Row W9 na (numsF r).length nc 1 ((numsF r).map (Value.int .i64)) from by obtain ⟨_, _, e9, h9⟩ := rowR_of_own HO9.out; simp only [Value.slice.injEq, true_and] at e9; obtain ⟨rfl, _, rfl⟩ := e9; exact h9)
                              have CSET := Lib.hid (rf_set s.c ta tc kk hk6 na nc (numsF r) W9 HNL.out HRN.out)
                              rw [HNN.out] at CSET
                              unfold CfM.v at CSET
                              have y0 := HC9.out.cell (j := 0) rfl
                              have y1 := HC9.out.cell (j := 1) rfl
                              have y2 := HC9.out.cell (j := 2) rfl
                              have y3 := HC9.out.cell (j := 3) rfl
                              have y4 := HC9.out.cell (j := 4) rfl
                              have y5 := HC9.out.cell (j := 5) rfl
                              have y6 := HC9.out.cell (j := 6) rfl
                              have y7 := HC9.out.cell (j := 7) rfl
                              have y8 := HC9.out.cell (j := 8) rfl
                              have y9 := HC9.out.cell (j := 9) rfl
                              have y10 := HC9.out.cell (j := 10) rfl
                              go_wp2_with (go_at_call 21; (with_reducible refine (CSET.out).mono ?_); rintro e w10 ⟨rfl, hb_⟩; have HCx := Lib.hid (HC9.out.later hb_); have HSx := Lib.hid (HS9.out.later hb_); have HBx := Lib.hid hb_; clear hb_ y0 y1 y2 y3 y4 y5 y6 y7 y8 y9 y10; have y0 := HCx.out.cell (j := 0) rfl; have y1 := HCx.out.cell (j := 1) rfl; have y2 := HCx.out.cell (j := 2) rfl; have y3 := HCx.out.cell (j := 3) rfl; have y4 := HCx.out.cell (j := 4) rfl; have y5 := HCx.out.cell (j := 5) rfl; have y6 := HCx.out.cell (j := 6) rfl; have y7 := HCx.out.cell (j := 7) rfl; have y8 := HCx.out.cell (j := 8) rfl; have y9 := HCx.out.cell (j := 9) rfl; have y10 := HCx.out.cell (j := 10) rfl; have yf := HCx.out.frozen)
                              have hCn := (((((((((((HCx.out.set 0 (.int .i64 (setF s.c kk (numsF r)).k0)).set 1 (.int .i64 (setF s.c kk (numsF r)).k1)).set 2 (.int .i64 (setF s.c kk (numsF r)).k2)).set 3 (.int .i64 (setF s.c kk (numsF r)).a0)).set 4 (.int .i64 (setF s.c kk (numsF r)).a1)).set 5 (.int .i64 (setF s.c kk (numsF r)).a2)).set 6 (.slice ta s.c.T.length tc)).set 7 (.int .i64 (setF s.c kk (numsF r)).per)).set 8 (.int .i64 (setF s.c kk (numsF r)).ret)).set 9 (.int .i64 (setF s.c kk (numsF r)).age)).set 10 (.int .i64 (setF s.c kk (numsF r)).dead))
                              have hSn := (blk_far (blk_far (blk_far (blk_far (blk_far (blk_far (blk_far (blk_far (blk_far (blk_far (blk_far HSx.out ⟨w1.heap.size, 0, none⟩ (fun e => hne6 e.symm) (.int .i64 (setF s.c kk (numsF r)).k0)) ⟨w1.heap.size, 1, none⟩ (fun e => hne6 e.symm) (.int .i64 (setF s.c kk (numsF r)).k1)) ⟨w1.heap.size, 2, none⟩ (fun e => hne6 e.symm) (.int .i64 (setF s.c kk (numsF r)).k2)) ⟨w1.heap.size, 3, none⟩ (fun e => hne6 e.symm) (.int .i64 (setF s.c kk (numsF r)).a0)) ⟨w1.heap.size, 4, none⟩ (fun e => hne6 e.symm) (.int .i64 (setF s.c kk (numsF r)).a1)) ⟨w1.heap.size, 5, none⟩ (fun e => hne6 e.symm) (.int .i64 (setF s.c kk (numsF r)).a2)) ⟨w1.heap.size, 6, none⟩ (fun e => hne6 e.symm) (.slice ta s.c.T.length tc)) ⟨w1.heap.size, 7, none⟩ (fun e => hne6 e.symm) (.int .i64 (setF s.c kk (numsF r)).per)) ⟨w1.heap.size, 8, none⟩ (fun e => hne6 e.symm) (.int .i64 (setF s.c kk (numsF r)).ret)) ⟨w1.heap.size, 9, none⟩ (fun e => hne6 e.symm) (.int .i64 (setF s.c kk (numsF r)).age)) ⟨w1.heap.size, 10, none⟩ (fun e => hne6 e.symm) (.int .i64 (setF s.c kk (numsF r)).dead))
                              have hAn := (Apart.set (Apart.set (Apart.set (Apart.set (Apart.set (Apart.set (Apart.set (Apart.set (Apart.set (Apart.set (Apart.set (HA1.out.trans (Apart.of_below HBx.out)) ⟨w1.heap.size, 0, none⟩ (.int .i64 (setF s.c kk (numsF r)).k0) (by simp)) ⟨w1.heap.size, 1, none⟩ (.int .i64 (setF s.c kk (numsF r)).k1) (by simp)) ⟨w1.heap.size, 2, none⟩ (.int .i64 (setF s.c kk (numsF r)).k2) (by simp)) ⟨w1.heap.size, 3, none⟩ (.int .i64 (setF s.c kk (numsF r)).a0) (by simp)) ⟨w1.heap.size, 4, none⟩ (.int .i64 (setF s.c kk (numsF r)).a1) (by simp)) ⟨w1.heap.size, 5, none⟩ (.int .i64 (setF s.c kk (numsF r)).a2) (by simp)) ⟨w1.heap.size, 6, none⟩ (.slice ta s.c.T.length tc) (by simp)) ⟨w1.heap.size, 7, none⟩ (.int .i64 (setF s.c kk (numsF r)).per) (by simp)) ⟨w1.heap.size, 8, none⟩ (.int .i64 (setF s.c kk (numsF r)).ret) (by simp)) ⟨w1.heap.size, 9, none⟩ (.int .i64 (setF s.c kk (numsF r)).age) (by simp)) ⟨w1.heap.size, 10, none⟩ (.int .i64 (setF s.c kk (numsF r)).dead) (by simp))
                              have HN8 := Lib.hid (HRI8.out.put HCb.out HTo.out hk6 HU.out hSn hCn hAn)
                              clear hCn hSn hAn
                              go_roundw
                              case rel =>
                                refine ⟨k + 1, ⟨setF s.c kk (numsF r), s.U ++ [kk]⟩, by omega, by push_cast; rfl, Lib.hid (conf_step HS.out HLN.out HST.out), Lib.hid ?_, HN8⟩
                                show (setF s.c kk (numsF r)).T.length ≤ k + 1
                                rw [setF_T]; have h1 := HT.out; omega
                              case measure => simp [intOf] <;> omega
                      · have kd2 : decide ((kk : Int) < 2) = false := decide_eq_false (by omega)
                        have kg2 : decide ((2 : Int) ≤ (kk : Int)) = true := decide_eq_true (by omega)
                        have kx2 : ¬ (kk : Int) < 2 := by omega
                        have ky2 : (2 : Int) ≤ (kk : Int) := by omega
                        have hnef := HFE.out
                        have hnk : needN kk = 1 := by unfold needN; rw [if_neg (by omega)]
                        have kl : ((fl : Int) == 2) = true := by rw [beq_iff_eq]; omega
                        have kl3 : ((fl : Int) != 2) = false := by rw [bne_eq_false_iff_eq]; omega
                        have hfl4 : fl ≤ 4 := by omega
                        clear hnef hnk hk2
                        have HCN := Lib.hid hcnt
                        clear hcnt
                        go_wp2
                        go_loopw [16, 17] (fun nv mv u => ∃ (m : Nat), 1 ≤ m ∧ m ≤ fl ∧ mv = .int .i64 m ∧ Hid (numsOk (r.take (m - 1)) = true) ∧ Hid (OwnI u WR.heap.size 3 .i64 nv (numsF (r.take (m - 1)))) ∧ Below WR.heap.size WR u) (fun _ mv _ => fl - (intOf mv).toNat)
                        case atStart => exact ⟨1, Nat.le_refl _, hfl1, rfl, Lib.hid rfl, Lib.hid (OwnI.nil _ _ _ _), Below.refl _ _⟩
                        case round =>
                          obtain ⟨m, hm1, hm2, rfl, HOK, HOW, hbm⟩ := hrel
                          by_cases hml : m < fl
                          · have hmd : decide ((m : Int) < (fl : Int)) = true := decide_eq_true (by omega)
                            have hmi : (m : Int) < (fl : Int) := by omega
                            have hm0 : (0 : Int) ≤ (m : Int) := by omega
                            obtain ⟨x, hx⟩ : ∃ x, r[m - 1]? = some x := ⟨_, List.getElem?_eq_getElem (by have := HFE.out; omega)⟩
                            have hx2 : (f :: r)[m]? = some x := by obtain ⟨m9, rfl⟩ : ∃ m9, m = m9 + 1 := ⟨m - 1, by omega⟩; rw [List.getElem?_cons_succ]; exact hx
                            have g0 := HFL7.out _ hbm m x hx2
                            have hxl := HTX.out x (List.mem_of_getElem? hx2)
                            have HXN := Lib.hid (numsF_next hx)
                            have HXM := Lib.hid (numsOk_next hx)
                            have HXB := Lib.hid (List.mem_of_getElem? hx : x ∈ r)
                            clear hx hx2
                            obtain ⟨xt, hxt⟩ : ∃ z, bA x.text = z := ⟨_, rfl⟩
                            have CQ := Lib.hid (fun u => ref_qRead (bA x.text) u (by rw [bA_size]; unfold maxLen; omega))
                            rw [show (bA x.text).toList = x.text from by rw [ByteArray.toList_eq, bA_data]] at CQ
                            rw [hxt] at CQ g0
                            clear hxt
                            cases hqo : qOk x.text with
                            | false =>
                              have HNO := Lib.hid (lineR_bad s r HTK.out HIX.out (by rw [numsOk_no HXB.out hqo, Bool.and_false]))
                              rw [hqo] at CQ
                              clear hqo
                              go_upto_region 31 with (go_at_call 20; (with_reducible refine (CQ.out _).mono ?_); rintro e w8 ⟨rfl, hb_⟩; have HB8 := Lib.hid (belStep hbm hb_); clear hb_)
                              have HR8 := Lib.hid (HR7.out.later HB8.out)
                              have HBW8 := Lib.hid (belStep HB7.out HB8.out)
                              have z0 := HR8.out.cell (j := 0) rfl
                              have z1 := HR8.out.cell (j := 1) rfl
                              have z2 := HR8.out.cell (j := 2) rfl
                              have z3 := HR8.out.cell (j := 3) rfl
                              have z4 := HR8.out.cell (j := 4) rfl
                              have z5 := HR8.out.cell (j := 5) rfl
                              have z6 := HR8.out.cell (j := 6) rfl
                              have z7 := HR8.out.cell (j := 7) rfl
                              have z8 := HR8.out.cell (j := 8) rfl
                              have z9 := HR8.out.cell (j := 9) rfl
                              have z10 := HR8.out.cell (j := 10) rfl
                              have zf := HR8.out.frozen
                              go_wp2
                              have hb10 := (belSet (belSet (belSet (belSet (belSet (belSet (belSet (belSet (belSet (belSet (belSet HBW8.out ⟨w.heap.size, 0, none⟩ (.int .i64 0) (Nat.le_refl _)) ⟨w.heap.size, 1, none⟩ (.int .i64 0) (Nat.le_refl _)) ⟨w.heap.size, 2, none⟩ (.int .i64 0) (Nat.le_refl _)) ⟨w.heap.size, 3, none⟩ (.int .i64 0) (Nat.le_refl _)) ⟨w.heap.size, 4, none⟩ (.int .i64 0) (Nat.le_refl _)) ⟨w.heap.size, 5, none⟩ (.int .i64 0) (Nat.le_refl _)) ⟨w.heap.size, 6, none⟩ (.slice none 0 0) (Nat.le_refl _)) ⟨w.heap.size, 7, none⟩ (.int .i64 0) (Nat.le_refl _)) ⟨w.heap.size, 8, none⟩ (.int .i64 0) (Nat.le_refl _)) ⟨w.heap.size, 9, none⟩ (.int .i64 0) (Nat.le_refl _)) ⟨w.heap.size, 10, none⟩ (.int .i64 0) (Nat.le_refl _))
                              have hR10 := (((((((((((HR8.out.set 0 (.int .i64 0)).set 1 (.int .i64 0)).set 2 (.int .i64 0)).set 3 (.int .i64 0)).set 4 (.int .i64 0)).set 5 (.int .i64 0)).set 6 (.slice none 0 0)).set 7 (.int .i64 0)).set 8 (.int .i64 0)).set 9 (.int .i64 0)).set 10 (.int .i64 0))
                              generalize (((((((((((w8.setCell ⟨w.heap.size, 0, none⟩ (.int .i64 0)).setCell ⟨w.heap.size, 1, none⟩ (.int .i64 0)).setCell ⟨w.heap.size, 2, none⟩ (.int .i64 0)).setCell ⟨w.heap.size, 3, none⟩ (.int .i64 0)).setCell ⟨w.heap.size, 4, none⟩ (.int .i64 0)).setCell ⟨w.heap.size, 5, none⟩ (.int .i64 0)).setCell ⟨w.heap.size, 6, none⟩ (.slice none 0 0)).setCell ⟨w.heap.size, 7, none⟩ (.int .i64 0)).setCell ⟨w.heap.size, 8, none⟩ (.int .i64 0)).setCell ⟨w.heap.size, 9, none⟩ (.int .i64 0)).setCell ⟨w.heap.size, 10, none⟩ (.int .i64 0)) = W10 at hb10 hR10 ⊢
                              refine rf_ret7 w.heap.size W10 _ _ _ (CfM.zero) (.slice none 0 0) _ rfl rfl rfl hR10 ⟨?_, hb10⟩
                              rw [(HCE.out _ HNO.out)]
                              rfl
                            | true =>
                              rw [hqo] at CQ
                              have HOK2 := Lib.hid (show numsOk (r.take (m + 1 - 1)) = true from by rw [show m + 1 - 1 = (m - 1) + 1 by omega, HXM.out, HOK.out, hqo]; rfl)
                              have HQN := Lib.hid (show qN x.text = qNum x.text from by unfold qN; rw [hqo]; rfl)
                              clear hqo
                              rw [HQN.out] at CQ
                              have hnl : (numsF (r.take (m - 1))).length ≤ 4 := by rw [numsF_len, List.length_take]; omega
                              generalize hnn : numsF (r.take (m - 1)) = N at *
                              have HNN := Lib.hid hnn
                              clear hnn
                              go_wp2_with (first | (go_at_call 20; (with_reducible refine (CQ.out _).mono ?_); rintro e w8 ⟨rfl, hb_⟩; have HOW8 := Lib.hid (OwnI.later HOW.out hb_); have HB8 := Lib.hid (belStep hbm hb_); clear hb_) | (at_builtin; refine wpList_app_one rfl _ _ 57 rfl WR.heap.size 3 .i64 8 Tryz.underlying57 info_intC _ _ rfl (HOW8.out.alloc (.cells #[.int .i64 (qNum x.text)] 3)) _ _ rfl (by simp; rfl) (by unfold maxLen; omega) (by omega) (by have := HB8.out.size; simp; omega) ?_; intro v4 w9 ho4 hb4 hg4 hm4; have HO4 := Lib.hid ho4; have HB4 := Lib.hid ((belAlloc HB8.out _).trans hb4); clear ho4 hb4 hg4 hm4))
                              go_roundw
                              case rel => exact ⟨m + 1, by omega, by omega, by push_cast; rfl, HOK2, Lib.hid (by rw [show m + 1 - 1 = (m - 1) + 1 by omega, HXN.out]; exact HO4.out), HB4.out⟩
                              case measure => simp [intOf] <;> omega
                          · obtain rfl : m = fl := by omega
                            have hmd : decide ((m : Int) < (m : Int)) = false := decide_eq_false (by omega)
                            have hmi : ¬ (m : Int) < (m : Int) := by omega
                            have hall : r.take (m - 1) = r := List.take_of_length_le (by have := HFE.out; omega)
                            rw [hall] at HOK HOW
                            have HQ := Lib.hid (show (decide (r.length = needN kk) && numsOk r) = true from by rw [decide_eq_true HCN.out, HOK.out]; rfl)
                            have hnl : (numsF r).length = needN kk := by rw [numsF_len]; exact HCN.out
                            have HNL := Lib.hid hnl
                            clear hnl hall
                            obtain ⟨na, nc, rfl, _⟩ := ints_of_own HOW.out (nums_wfC r)
                            have HRI8 := Lib.hid (HRI7.out.later hbm)
                            have HR8 := Lib.hid (HR7.out.later hbm)
                            have HB8 := Lib.hid (belStep HB7.out hbm)
                            clear hbm
                            generalize wr = WN at *
                            obtain ⟨nn, hnn⟩ : ∃ n, (numsF r).length = n := ⟨_, rfl⟩
                            rw [hnn] at HOW ⊢
                            have HNN := Lib.hid hnn
                            clear hnn
                            have sk := HRI8.out.seen.cell (seenL_at s.U hk6)
                            have sf := HRI8.out.seen.frozen
                            by_cases hU : kk ∈ s.U
                            · have HNO := Lib.hid (lineR_two s r HTK.out HIX.out HQ.out hU)
                              rw [decide_eq_true hU] at sk
                              clear hU
                              have z0 := HR8.out.cell (j := 0) rfl
                              have z1 := HR8.out.cell (j := 1) rfl
                              have z2 := HR8.out.cell (j := 2) rfl
                              have z3 := HR8.out.cell (j := 3) rfl
                              have z4 := HR8.out.cell (j := 4) rfl
                              have z5 := HR8.out.cell (j := 5) rfl
                              have z6 := HR8.out.cell (j := 6) rfl
                              have z7 := HR8.out.cell (j := 7) rfl
                              have z8 := HR8.out.cell (j := 8) rfl
                              have z9 := HR8.out.cell (j := 9) rfl
                              have z10 := HR8.out.cell (j := 10) rfl
                              have zf := HR8.out.frozen
                              go_wp2
                              have hb10 := (belSet (belSet (belSet (belSet (belSet (belSet (belSet (belSet (belSet (belSet (belSet HB8.out ⟨w.heap.size, 0, none⟩ (.int .i64 0) (Nat.le_refl _)) ⟨w.heap.size, 1, none⟩ (.int .i64 0) (Nat.le_refl _)) ⟨w.heap.size, 2, none⟩ (.int .i64 0) (Nat.le_refl _)) ⟨w.heap.size, 3, none⟩ (.int .i64 0) (Nat.le_refl _)) ⟨w.heap.size, 4, none⟩ (.int .i64 0) (Nat.le_refl _)) ⟨w.heap.size, 5, none⟩ (.int .i64 0) (Nat.le_refl _)) ⟨w.heap.size, 6, none⟩ (.slice none 0 0) (Nat.le_refl _)) ⟨w.heap.size, 7, none⟩ (.int .i64 0) (Nat.le_refl _)) ⟨w.heap.size, 8, none⟩ (.int .i64 0) (Nat.le_refl _)) ⟨w.heap.size, 9, none⟩ (.int .i64 0) (Nat.le_refl _)) ⟨w.heap.size, 10, none⟩ (.int .i64 0) (Nat.le_refl _))
                              have hR10 := (((((((((((HR8.out.set 0 (.int .i64 0)).set 1 (.int .i64 0)).set 2 (.int .i64 0)).set 3 (.int .i64 0)).set 4 (.int .i64 0)).set 5 (.int .i64 0)).set 6 (.slice none 0 0)).set 7 (.int .i64 0)).set 8 (.int .i64 0)).set 9 (.int .i64 0)).set 10 (.int .i64 0))
                              generalize (((((((((((WN.setCell ⟨w.heap.size, 0, none⟩ (.int .i64 0)).setCell ⟨w.heap.size, 1, none⟩ (.int .i64 0)).setCell ⟨w.heap.size, 2, none⟩ (.int .i64 0)).setCell ⟨w.heap.size, 3, none⟩ (.int .i64 0)).setCell ⟨w.heap.size, 4, none⟩ (.int .i64 0)).setCell ⟨w.heap.size, 5, none⟩ (.int .i64 0)).setCell ⟨w.heap.size, 6, none⟩ (.slice none 0 0)).setCell ⟨w.heap.size, 7, none⟩ (.int .i64 0)).setCell ⟨w.heap.size, 8, none⟩ (.int .i64 0)).setCell ⟨w.heap.size, 9, none⟩ (.int .i64 0)).setCell ⟨w.heap.size, 10, none⟩ (.int .i64 0)) = W10 at hb10 hR10 ⊢
                              refine rf_ret7 w.heap.size W10 _ _ _ (CfM.zero) (.slice none 0 0) _ rfl rfl rfl hR10 ⟨?_, hb10⟩
                              rw [(HCE.out _ HNO.out)]
                              rfl
                            · have HST := Lib.hid (lineR_ok s r HTK.out HIX.out HQ.out hU)
                              have HU := Lib.hid hU
                              rw [decide_eq_false hU] at sk
                              clear hU
                              obtain ⟨ta, tc, hCb, hTo⟩ := HRI8.out.cfg
                              have HCb := Lib.hid hCb
                              have HTo := Lib.hid hTo
                              clear hCb hTo
                              go_upto_region 36 with fail
                              have hne6 : S6 ≠ w1.heap.size := fun e => by have h1 := HRI8.out.seen; rw [e] at h1; exact absurd (h1.type HCb.out) (by decide)
                              have hA1 : Apart [w1.heap.size, S6] WN (WN.setCell ⟨S6, kk, none⟩ (.bool true)) := (Apart.refl _ _).set _ _ (by simp)
                              have HS9 := Lib.hid (show Blk (WN.setCell ⟨S6, kk, none⟩ (.bool true)) S6 (seenL (s.U ++ [kk])) 50 from by rw [← seenL_set s.U hk6]; exact HRI8.out.seen.set kk (.bool true))
                              have HC9 := Lib.hid (blk_far HCb.out ⟨S6, kk, none⟩ hne6 (.bool true))
                              have HO9 := Lib.hid (own_far (E := 3) HOW.out HRI8.out.seen (by decide) ⟨S6, kk, none⟩ rfl (.bool true))
                              have HA1 := Lib.hid hA1
                              clear sk sf hA1
                              generalize WN.setCell ⟨S6, kk, none⟩ (.bool true) = W9 at *
                              have HRN := Lib.hid (show Row W9 na (numsF r).length nc 1 ((numsF r).map (Value.int .i64)) from by obtain ⟨_, _, e9, h9⟩ := rowR_of_own HO9.out; simp only [Value.slice.injEq, true_and] at e9; obtain ⟨rfl, _, rfl⟩ := e9; exact h9)
                              have CSET := Lib.hid (rf_set s.c ta tc kk hk6 na nc (numsF r) W9 HNL.out HRN.out)
                              rw [HNN.out] at CSET
                              unfold CfM.v at CSET
                              have y0 := HC9.out.cell (j := 0) rfl
                              have y1 := HC9.out.cell (j := 1) rfl
                              have y2 := HC9.out.cell (j := 2) rfl
                              have y3 := HC9.out.cell (j := 3) rfl
                              have y4 := HC9.out.cell (j := 4) rfl
                              have y5 := HC9.out.cell (j := 5) rfl
                              have y6 := HC9.out.cell (j := 6) rfl
                              have y7 := HC9.out.cell (j := 7) rfl
                              have y8 := HC9.out.cell (j := 8) rfl
                              have y9 := HC9.out.cell (j := 9) rfl
                              have y10 := HC9.out.cell (j := 10) rfl
                              go_wp2_with (go_at_call 21; (with_reducible refine (CSET.out).mono ?_); rintro e w10 ⟨rfl, hb_⟩; have HCx := Lib.hid (HC9.out.later hb_); have HSx := Lib.hid (HS9.out.later hb_); have HBx := Lib.hid hb_; clear hb_ y0 y1 y2 y3 y4 y5 y6 y7 y8 y9 y10; have y0 := HCx.out.cell (j := 0) rfl; have y1 := HCx.out.cell (j := 1) rfl; have y2 := HCx.out.cell (j := 2) rfl; have y3 := HCx.out.cell (j := 3) rfl; have y4 := HCx.out.cell (j := 4) rfl; have y5 := HCx.out.cell (j := 5) rfl; have y6 := HCx.out.cell (j := 6) rfl; have y7 := HCx.out.cell (j := 7) rfl; have y8 := HCx.out.cell (j := 8) rfl; have y9 := HCx.out.cell (j := 9) rfl; have y10 := HCx.out.cell (j := 10) rfl; have yf := HCx.out.frozen)
                              have hCn := (((((((((((HCx.out.set 0 (.int .i64 (setF s.c kk (numsF r)).k0)).set 1 (.int .i64 (setF s.c kk (numsF r)).k1)).set 2 (.int .i64 (setF s.c kk (numsF r)).k2)).set 3 (.int .i64 (setF s.c kk (numsF r)).a0)).set 4 (.int .i64 (setF s.c kk (numsF r)).a1)).set 5 (.int .i64 (setF s.c kk (numsF r)).a2)).set 6 (.slice ta s.c.T.length tc)).set 7 (.int .i64 (setF s.c kk (numsF r)).per)).set 8 (.int .i64 (setF s.c kk (numsF r)).ret)).set 9 (.int .i64 (setF s.c kk (numsF r)).age)).set 10 (.int .i64 (setF s.c kk (numsF r)).dead))
                              have hSn := (blk_far (blk_far (blk_far (blk_far (blk_far (blk_far (blk_far (blk_far (blk_far (blk_far (blk_far HSx.out ⟨w1.heap.size, 0, none⟩ (fun e => hne6 e.symm) (.int .i64 (setF s.c kk (numsF r)).k0)) ⟨w1.heap.size, 1, none⟩ (fun e => hne6 e.symm) (.int .i64 (setF s.c kk (numsF r)).k1)) ⟨w1.heap.size, 2, none⟩ (fun e => hne6 e.symm) (.int .i64 (setF s.c kk (numsF r)).k2)) ⟨w1.heap.size, 3, none⟩ (fun e => hne6 e.symm) (.int .i64 (setF s.c kk (numsF r)).a0)) ⟨w1.heap.size, 4, none⟩ (fun e => hne6 e.symm) (.int .i64 (setF s.c kk (numsF r)).a1)) ⟨w1.heap.size, 5, none⟩ (fun e => hne6 e.symm) (.int .i64 (setF s.c kk (numsF r)).a2)) ⟨w1.heap.size, 6, none⟩ (fun e => hne6 e.symm) (.slice ta s.c.T.length tc)) ⟨w1.heap.size, 7, none⟩ (fun e => hne6 e.symm) (.int .i64 (setF s.c kk (numsF r)).per)) ⟨w1.heap.size, 8, none⟩ (fun e => hne6 e.symm) (.int .i64 (setF s.c kk (numsF r)).ret)) ⟨w1.heap.size, 9, none⟩ (fun e => hne6 e.symm) (.int .i64 (setF s.c kk (numsF r)).age)) ⟨w1.heap.size, 10, none⟩ (fun e => hne6 e.symm) (.int .i64 (setF s.c kk (numsF r)).dead))
                              have hAn := (Apart.set (Apart.set (Apart.set (Apart.set (Apart.set (Apart.set (Apart.set (Apart.set (Apart.set (Apart.set (Apart.set (HA1.out.trans (Apart.of_below HBx.out)) ⟨w1.heap.size, 0, none⟩ (.int .i64 (setF s.c kk (numsF r)).k0) (by simp)) ⟨w1.heap.size, 1, none⟩ (.int .i64 (setF s.c kk (numsF r)).k1) (by simp)) ⟨w1.heap.size, 2, none⟩ (.int .i64 (setF s.c kk (numsF r)).k2) (by simp)) ⟨w1.heap.size, 3, none⟩ (.int .i64 (setF s.c kk (numsF r)).a0) (by simp)) ⟨w1.heap.size, 4, none⟩ (.int .i64 (setF s.c kk (numsF r)).a1) (by simp)) ⟨w1.heap.size, 5, none⟩ (.int .i64 (setF s.c kk (numsF r)).a2) (by simp)) ⟨w1.heap.size, 6, none⟩ (.slice ta s.c.T.length tc) (by simp)) ⟨w1.heap.size, 7, none⟩ (.int .i64 (setF s.c kk (numsF r)).per) (by simp)) ⟨w1.heap.size, 8, none⟩ (.int .i64 (setF s.c kk (numsF r)).ret) (by simp)) ⟨w1.heap.size, 9, none⟩ (.int .i64 (setF s.c kk (numsF r)).age) (by simp)) ⟨w1.heap.size, 10, none⟩ (.int .i64 (setF s.c kk (numsF r)).dead) (by simp))
                              have HN8 := Lib.hid (HRI8.out.put HCb.out HTo.out hk6 HU.out hSn hCn hAn)
                              clear hCn hSn hAn
                              go_roundw
                              case rel =>
                                refine ⟨k + 1, ⟨setF s.c kk (numsF r), s.U ++ [kk]⟩, by omega, by push_cast; rfl, Lib.hid (conf_step HS.out HLN.out HST.out), Lib.hid ?_, HN8⟩
                                show (setF s.c kk (numsF r)).T.length ≤ k + 1
                                rw [setF_T]; have h1 := HT.out; omega
                              case measure => simp [intOf] <;> omega
                    · have HNO := Lib.hid (lineR_bad s r HTK.out HIX.out (by rw [decide_eq_false hcnt]; rfl))
                      by_cases hk2 : kk < 2
                      · have kd2 : decide ((kk : Int) < 2) = true := decide_eq_true (by omega)
                        have kg2 : decide ((2 : Int) ≤ (kk : Int)) = false := decide_eq_false (by omega)
                        have kx2 : (kk : Int) < 2 := by omega
                        have ky2 : ¬ (2 : Int) ≤ (kk : Int) := by omega
                        have hnef := HFE.out
                        have hnk : needN kk = 3 := by unfold needN; rw [if_pos (by omega)]
                        have kl : ((fl : Int) == 4) = false := by rw [beq_eq_false_iff_ne]; omega
                        have kl3 : ((fl : Int) != 4) = true := by rw [bne_iff_ne]; omega
                        have kl2 : ¬ (fl : Int) = 4 := by omega
                        clear hnef hnk hk2
                        clear hcnt
                        have z0 := HR7.out.cell (j := 0) rfl
                        have z1 := HR7.out.cell (j := 1) rfl
                        have z2 := HR7.out.cell (j := 2) rfl
                        have z3 := HR7.out.cell (j := 3) rfl
                        have z4 := HR7.out.cell (j := 4) rfl
                        have z5 := HR7.out.cell (j := 5) rfl
                        have z6 := HR7.out.cell (j := 6) rfl
                        have z7 := HR7.out.cell (j := 7) rfl
                        have z8 := HR7.out.cell (j := 8) rfl
                        have z9 := HR7.out.cell (j := 9) rfl
                        have z10 := HR7.out.cell (j := 10) rfl
                        have zf := HR7.out.frozen
                        go_wp2
                        have hb10 := (belSet (belSet (belSet (belSet (belSet (belSet (belSet (belSet (belSet (belSet (belSet HB7.out ⟨w.heap.size, 0, none⟩ (.int .i64 0) (Nat.le_refl _)) ⟨w.heap.size, 1, none⟩ (.int .i64 0) (Nat.le_refl _)) ⟨w.heap.size, 2, none⟩ (.int .i64 0) (Nat.le_refl _)) ⟨w.heap.size, 3, none⟩ (.int .i64 0) (Nat.le_refl _)) ⟨w.heap.size, 4, none⟩ (.int .i64 0) (Nat.le_refl _)) ⟨w.heap.size, 5, none⟩ (.int .i64 0) (Nat.le_refl _)) ⟨w.heap.size, 6, none⟩ (.slice none 0 0) (Nat.le_refl _)) ⟨w.heap.size, 7, none⟩ (.int .i64 0) (Nat.le_refl _)) ⟨w.heap.size, 8, none⟩ (.int .i64 0) (Nat.le_refl _)) ⟨w.heap.size, 9, none⟩ (.int .i64 0) (Nat.le_refl _)) ⟨w.heap.size, 10, none⟩ (.int .i64 0) (Nat.le_refl _))
                        have hR10 := (((((((((((HR7.out.set 0 (.int .i64 0)).set 1 (.int .i64 0)).set 2 (.int .i64 0)).set 3 (.int .i64 0)).set 4 (.int .i64 0)).set 5 (.int .i64 0)).set 6 (.slice none 0 0)).set 7 (.int .i64 0)).set 8 (.int .i64 0)).set 9 (.int .i64 0)).set 10 (.int .i64 0))
                        generalize (((((((((((WR.setCell ⟨w.heap.size, 0, none⟩ (.int .i64 0)).setCell ⟨w.heap.size, 1, none⟩ (.int .i64 0)).setCell ⟨w.heap.size, 2, none⟩ (.int .i64 0)).setCell ⟨w.heap.size, 3, none⟩ (.int .i64 0)).setCell ⟨w.heap.size, 4, none⟩ (.int .i64 0)).setCell ⟨w.heap.size, 5, none⟩ (.int .i64 0)).setCell ⟨w.heap.size, 6, none⟩ (.slice none 0 0)).setCell ⟨w.heap.size, 7, none⟩ (.int .i64 0)).setCell ⟨w.heap.size, 8, none⟩ (.int .i64 0)).setCell ⟨w.heap.size, 9, none⟩ (.int .i64 0)).setCell ⟨w.heap.size, 10, none⟩ (.int .i64 0)) = W10 at hb10 hR10 ⊢
                        refine rf_ret7 w.heap.size W10 _ _ _ (CfM.zero) (.slice none 0 0) _ rfl rfl rfl hR10 ⟨?_, hb10⟩
                        rw [(HCE.out _ HNO.out)]
                        rfl
                      · have kd2 : decide ((kk : Int) < 2) = false := decide_eq_false (by omega)
                        have kg2 : decide ((2 : Int) ≤ (kk : Int)) = true := decide_eq_true (by omega)
                        have kx2 : ¬ (kk : Int) < 2 := by omega
                        have ky2 : (2 : Int) ≤ (kk : Int) := by omega
                        have hnef := HFE.out
                        have hnk : needN kk = 1 := by unfold needN; rw [if_neg (by omega)]
                        have kl : ((fl : Int) == 2) = false := by rw [beq_eq_false_iff_ne]; omega
                        have kl3 : ((fl : Int) != 2) = true := by rw [bne_iff_ne]; omega
                        have kl2 : ¬ (fl : Int) = 2 := by omega
                        clear hnef hnk hk2
                        clear hcnt
                        have z0 := HR7.out.cell (j := 0) rfl
                        have z1 := HR7.out.cell (j := 1) rfl
                        have z2 := HR7.out.cell (j := 2) rfl
                        have z3 := HR7.out.cell (j := 3) rfl
                        have z4 := HR7.out.cell (j := 4) rfl
                        have z5 := HR7.out.cell (j := 5) rfl
                        have z6 := HR7.out.cell (j := 6) rfl
                        have z7 := HR7.out.cell (j := 7) rfl
                        have z8 := HR7.out.cell (j := 8) rfl
                        have z9 := HR7.out.cell (j := 9) rfl
                        have z10 := HR7.out.cell (j := 10) rfl
                        have zf := HR7.out.frozen
                        go_wp2
                        have hb10 := (belSet (belSet (belSet (belSet (belSet (belSet (belSet (belSet (belSet (belSet (belSet HB7.out ⟨w.heap.size, 0, none⟩ (.int .i64 0) (Nat.le_refl _)) ⟨w.heap.size, 1, none⟩ (.int .i64 0) (Nat.le_refl _)) ⟨w.heap.size, 2, none⟩ (.int .i64 0) (Nat.le_refl _)) ⟨w.heap.size, 3, none⟩ (.int .i64 0) (Nat.le_refl _)) ⟨w.heap.size, 4, none⟩ (.int .i64 0) (Nat.le_refl _)) ⟨w.heap.size, 5, none⟩ (.int .i64 0) (Nat.le_refl _)) ⟨w.heap.size, 6, none⟩ (.slice none 0 0) (Nat.le_refl _)) ⟨w.heap.size, 7, none⟩ (.int .i64 0) (Nat.le_refl _)) ⟨w.heap.size, 8, none⟩ (.int .i64 0) (Nat.le_refl _)) ⟨w.heap.size, 9, none⟩ (.int .i64 0) (Nat.le_refl _)) ⟨w.heap.size, 10, none⟩ (.int .i64 0) (Nat.le_refl _))
                        have hR10 := (((((((((((HR7.out.set 0 (.int .i64 0)).set 1 (.int .i64 0)).set 2 (.int .i64 0)).set 3 (.int .i64 0)).set 4 (.int .i64 0)).set 5 (.int .i64 0)).set 6 (.slice none 0 0)).set 7 (.int .i64 0)).set 8 (.int .i64 0)).set 9 (.int .i64 0)).set 10 (.int .i64 0))
                        generalize (((((((((((WR.setCell ⟨w.heap.size, 0, none⟩ (.int .i64 0)).setCell ⟨w.heap.size, 1, none⟩ (.int .i64 0)).setCell ⟨w.heap.size, 2, none⟩ (.int .i64 0)).setCell ⟨w.heap.size, 3, none⟩ (.int .i64 0)).setCell ⟨w.heap.size, 4, none⟩ (.int .i64 0)).setCell ⟨w.heap.size, 5, none⟩ (.int .i64 0)).setCell ⟨w.heap.size, 6, none⟩ (.slice none 0 0)).setCell ⟨w.heap.size, 7, none⟩ (.int .i64 0)).setCell ⟨w.heap.size, 8, none⟩ (.int .i64 0)).setCell ⟨w.heap.size, 9, none⟩ (.int .i64 0)).setCell ⟨w.heap.size, 10, none⟩ (.int .i64 0)) = W10 at hb10 hR10 ⊢
                        refine rf_ret7 w.heap.size W10 _ _ _ (CfM.zero) (.slice none 0 0) _ rfl rfl rfl hR10 ⟨?_, hb10⟩
                        rw [(HCE.out _ HNO.out)]
                        rfl
      · obtain rfl : k = LL.length := by omega
        have hdl : decide ((LL.length : Int) < (LL.length : Int)) = false := decide_eq_false (by omega)
        have HCE := Lib.hid (show confF L = endR s from by rw [HCF.out, HS.out, List.drop_length]; rfl)
        have HR5 := Lib.hid (HR1.out.later hbel1)
        obtain ⟨ta, tc, hCb, hTo⟩ := HRI.out.cfg
        have HCb := Lib.hid hCb
        have HTo := Lib.hid hTo
        clear hCb hTo
        obtain ⟨_, _, e9, hrw⟩ := rowR_of_own HTo.out
        simp only [Value.slice.injEq, true_and] at e9
        obtain ⟨rfl, rfl⟩ := e9
        have HRW := Lib.hid hrw
        clear hrw
        have HSN := Lib.hid HRI.out.seen
        generalize wr = WE at *
        go_wp2
        go_loopw [20] (fun jv u => ∃ (j : Nat), j ≤ 6 ∧ jv = .int .i64 j ∧ Hid (∀ i, i < j → i ∈ s.U) ∧ u = WE) (fun jv _ => 6 - (intOf jv).toNat)
        case atStart => exact ⟨0, by omega, rfl, Lib.hid (fun i hi => absurd hi (by omega)), rfl⟩
        case round =>
          obtain ⟨j, hj6, rfl, HJ, rfl⟩ := hrel
          by_cases hj : j < 6
          · have hjd : decide ((j : Int) < 6) = true := decide_eq_true (by omega)
            have hji : (j : Int) < 6 := by omega
            have hj0 : (0 : Int) ≤ (j : Int) := by omega
            have sk := HSN.out.cell (seenL_at s.U hj)
            by_cases hU : j ∈ s.U
            · rw [decide_eq_true hU] at sk
              have HJ2 := Lib.hid (show ∀ i, i < j + 1 → i ∈ s.U from fun i hi => (Nat.lt_or_ge i j).elim (HJ.out i) (fun h => (show i = j by omega) ▸ hU))
              clear hU
              go_wp2
              go_roundw
              case rel => exact ⟨j + 1, by omega, by push_cast; rfl, HJ2, by first | rfl | trivial⟩
              case measure => simp [intOf] <;> omega
            · rw [decide_eq_false hU] at sk
              have HCX := Lib.hid (show confF L = .error (0, 4) from by rw [HCE.out]; unfold endR; rw [if_pos (not_six HRI.out.nod HRI.out.six hj hU)])
              clear hU
              have z0 := HR5.out.cell (j := 0) rfl
              have z1 := HR5.out.cell (j := 1) rfl
              have z2 := HR5.out.cell (j := 2) rfl
              have z3 := HR5.out.cell (j := 3) rfl
              have z4 := HR5.out.cell (j := 4) rfl
              have z5 := HR5.out.cell (j := 5) rfl
              have z6 := HR5.out.cell (j := 6) rfl
              have z7 := HR5.out.cell (j := 7) rfl
              have z8 := HR5.out.cell (j := 8) rfl
              have z9 := HR5.out.cell (j := 9) rfl
              have z10 := HR5.out.cell (j := 10) rfl
              have zf := HR5.out.frozen
              go_wp2
              have hb10 := (belSet (belSet (belSet (belSet (belSet (belSet (belSet (belSet (belSet (belSet (belSet HBw.out ⟨w.heap.size, 0, none⟩ (.int .i64 0) (Nat.le_refl _)) ⟨w.heap.size, 1, none⟩ (.int .i64 0) (Nat.le_refl _)) ⟨w.heap.size, 2, none⟩ (.int .i64 0) (Nat.le_refl _)) ⟨w.heap.size, 3, none⟩ (.int .i64 0) (Nat.le_refl _)) ⟨w.heap.size, 4, none⟩ (.int .i64 0) (Nat.le_refl _)) ⟨w.heap.size, 5, none⟩ (.int .i64 0) (Nat.le_refl _)) ⟨w.heap.size, 6, none⟩ (.slice none 0 0) (Nat.le_refl _)) ⟨w.heap.size, 7, none⟩ (.int .i64 0) (Nat.le_refl _)) ⟨w.heap.size, 8, none⟩ (.int .i64 0) (Nat.le_refl _)) ⟨w.heap.size, 9, none⟩ (.int .i64 0) (Nat.le_refl _)) ⟨w.heap.size, 10, none⟩ (.int .i64 0) (Nat.le_refl _))
              have hR10 := (((((((((((HR5.out.set 0 (.int .i64 0)).set 1 (.int .i64 0)).set 2 (.int .i64 0)).set 3 (.int .i64 0)).set 4 (.int .i64 0)).set 5 (.int .i64 0)).set 6 (.slice none 0 0)).set 7 (.int .i64 0)).set 8 (.int .i64 0)).set 9 (.int .i64 0)).set 10 (.int .i64 0))
              generalize (((((((((((wr.setCell ⟨w.heap.size, 0, none⟩ (.int .i64 0)).setCell ⟨w.heap.size, 1, none⟩ (.int .i64 0)).setCell ⟨w.heap.size, 2, none⟩ (.int .i64 0)).setCell ⟨w.heap.size, 3, none⟩ (.int .i64 0)).setCell ⟨w.heap.size, 4, none⟩ (.int .i64 0)).setCell ⟨w.heap.size, 5, none⟩ (.int .i64 0)).setCell ⟨w.heap.size, 6, none⟩ (.slice none 0 0)).setCell ⟨w.heap.size, 7, none⟩ (.int .i64 0)).setCell ⟨w.heap.size, 8, none⟩ (.int .i64 0)).setCell ⟨w.heap.size, 9, none⟩ (.int .i64 0)).setCell ⟨w.heap.size, 10, none⟩ (.int .i64 0)) = W10 at hb10 hR10 ⊢
              refine rf_ret7 w.heap.size W10 _ _ _ (CfM.zero) (.slice none 0 0) _ rfl rfl rfl hR10 ⟨?_, hb10⟩
              rw [HCX.out]
              rfl
          · obtain rfl : j = 6 := by omega
            have hjd : decide (((6 : Nat) : Int) < 6) = false := by decide
            have H6 := Lib.hid (show ¬ s.U.length < 6 from by have := all_six HJ.out; omega)
            have y0 := HCb.out.cell (j := 0) rfl
            have y1 := HCb.out.cell (j := 1) rfl
            have y2 := HCb.out.cell (j := 2) rfl
            have y3 := HCb.out.cell (j := 3) rfl
            have y4 := HCb.out.cell (j := 4) rfl
            have y5 := HCb.out.cell (j := 5) rfl
            have y6 := HCb.out.cell (j := 6) rfl
            have y7 := HCb.out.cell (j := 7) rfl
            have y8 := HCb.out.cell (j := 8) rfl
            have y9 := HCb.out.cell (j := 9) rfl
            have y10 := HCb.out.cell (j := 10) rfl
            have yf := HCb.out.frozen
            have CRt := Lib.hid (rf_Right7 s.c ta tc wr ⟨HRI.out.ok, HRW.out⟩)
            cases hrt : rightM s.c with
            | false =>
              rw [hrt] at CRt
              have HCX := Lib.hid (show confF L = .error (0, 1) from by rw [HCE.out]; unfold endR; rw [if_neg H6.out, if_pos hrt])
              go_upto_region 43 with (go_at_call 8; (with_reducible refine (CRt.out).mono ?_); rintro e w6 ⟨rfl, hb_⟩; have HB6 := Lib.hid hb_; clear hb_ CRt)
              have HR6 := Lib.hid (HR5.out.later HB6.out)
              have HBW6 := Lib.hid (belStep HBw.out HB6.out)
              have z0 := HR6.out.cell (j := 0) rfl
              have z1 := HR6.out.cell (j := 1) rfl
              have z2 := HR6.out.cell (j := 2) rfl
              have z3 := HR6.out.cell (j := 3) rfl
              have z4 := HR6.out.cell (j := 4) rfl
              have z5 := HR6.out.cell (j := 5) rfl
              have z6 := HR6.out.cell (j := 6) rfl
              have z7 := HR6.out.cell (j := 7) rfl
              have z8 := HR6.out.cell (j := 8) rfl
              have z9 := HR6.out.cell (j := 9) rfl
              have z10 := HR6.out.cell (j := 10) rfl
              have zf := HR6.out.frozen
              go_wp2
              have hb10 := (belSet (belSet (belSet (belSet (belSet (belSet (belSet (belSet (belSet (belSet (belSet HBW6.out ⟨w.heap.size, 0, none⟩ (.int .i64 0) (Nat.le_refl _)) ⟨w.heap.size, 1, none⟩ (.int .i64 0) (Nat.le_refl _)) ⟨w.heap.size, 2, none⟩ (.int .i64 0) (Nat.le_refl _)) ⟨w.heap.size, 3, none⟩ (.int .i64 0) (Nat.le_refl _)) ⟨w.heap.size, 4, none⟩ (.int .i64 0) (Nat.le_refl _)) ⟨w.heap.size, 5, none⟩ (.int .i64 0) (Nat.le_refl _)) ⟨w.heap.size, 6, none⟩ (.slice none 0 0) (Nat.le_refl _)) ⟨w.heap.size, 7, none⟩ (.int .i64 0) (Nat.le_refl _)) ⟨w.heap.size, 8, none⟩ (.int .i64 0) (Nat.le_refl _)) ⟨w.heap.size, 9, none⟩ (.int .i64 0) (Nat.le_refl _)) ⟨w.heap.size, 10, none⟩ (.int .i64 0) (Nat.le_refl _))
              have hR10 := (((((((((((HR6.out.set 0 (.int .i64 0)).set 1 (.int .i64 0)).set 2 (.int .i64 0)).set 3 (.int .i64 0)).set 4 (.int .i64 0)).set 5 (.int .i64 0)).set 6 (.slice none 0 0)).set 7 (.int .i64 0)).set 8 (.int .i64 0)).set 9 (.int .i64 0)).set 10 (.int .i64 0))
              generalize (((((((((((w6.setCell ⟨w.heap.size, 0, none⟩ (.int .i64 0)).setCell ⟨w.heap.size, 1, none⟩ (.int .i64 0)).setCell ⟨w.heap.size, 2, none⟩ (.int .i64 0)).setCell ⟨w.heap.size, 3, none⟩ (.int .i64 0)).setCell ⟨w.heap.size, 4, none⟩ (.int .i64 0)).setCell ⟨w.heap.size, 5, none⟩ (.int .i64 0)).setCell ⟨w.heap.size, 6, none⟩ (.slice none 0 0)).setCell ⟨w.heap.size, 7, none⟩ (.int .i64 0)).setCell ⟨w.heap.size, 8, none⟩ (.int .i64 0)).setCell ⟨w.heap.size, 9, none⟩ (.int .i64 0)).setCell ⟨w.heap.size, 10, none⟩ (.int .i64 0)) = W10 at hb10 hR10 ⊢
              refine rf_ret7 w.heap.size W10 _ _ _ (CfM.zero) (.slice none 0 0) _ rfl rfl rfl hR10 ⟨?_, hb10⟩
              rw [HCX.out]
              rfl
            | true =>
              rw [hrt] at CRt
              have HCX := Lib.hid (show confF L = .ok s.c from by rw [HCE.out]; unfold endR; rw [if_neg H6.out, if_neg (by rw [hrt]; simp)])
              have HRT := Lib.hid hrt
              go_upto_region 44 with (go_at_call 8; (with_reducible refine (CRt.out).mono ?_); rintro e w6 ⟨rfl, hb_⟩; have HB6 := Lib.hid hb_; clear hb_ CRt)
              have HR6 := Lib.hid (HR5.out.later HB6.out)
              have HBW6 := Lib.hid (belStep HBw.out HB6.out)
              have HC6 := Lib.hid (HCb.out.later HB6.out)
              have HT6 := Lib.hid (HTo.out.later HB6.out)
              clear y0 y1 y2 y3 y4 y5 y6 y7 y8 y9 y10 yf
              have y0 := HC6.out.cell (j := 0) rfl
              have y1 := HC6.out.cell (j := 1) rfl
              have y2 := HC6.out.cell (j := 2) rfl
              have y3 := HC6.out.cell (j := 3) rfl
              have y4 := HC6.out.cell (j := 4) rfl
              have y5 := HC6.out.cell (j := 5) rfl
              have y6 := HC6.out.cell (j := 6) rfl
              have y7 := HC6.out.cell (j := 7) rfl
              have y8 := HC6.out.cell (j := 8) rfl
              have y9 := HC6.out.cell (j := 9) rfl
              have y10 := HC6.out.cell (j := 10) rfl
              have yf := HC6.out.frozen
              have z0 := HR6.out.cell (j := 0) rfl
              have z1 := HR6.out.cell (j := 1) rfl
              have z2 := HR6.out.cell (j := 2) rfl
              have z3 := HR6.out.cell (j := 3) rfl
              have z4 := HR6.out.cell (j := 4) rfl
              have z5 := HR6.out.cell (j := 5) rfl
              have z6 := HR6.out.cell (j := 6) rfl
              have z7 := HR6.out.cell (j := 7) rfl
              have z8 := HR6.out.cell (j := 8) rfl
              have z9 := HR6.out.cell (j := 9) rfl
              have z10 := HR6.out.cell (j := 10) rfl
              have zf := HR6.out.frozen
              go_wp2
              have hb10 := (belSet (belSet (belSet (belSet (belSet (belSet (belSet (belSet (belSet (belSet (belSet HBW6.out ⟨w.heap.size, 0, none⟩ (.int .i64 s.c.k0) (Nat.le_refl _)) ⟨w.heap.size, 1, none⟩ (.int .i64 s.c.k1) (Nat.le_refl _)) ⟨w.heap.size, 2, none⟩ (.int .i64 s.c.k2) (Nat.le_refl _)) ⟨w.heap.size, 3, none⟩ (.int .i64 s.c.a0) (Nat.le_refl _)) ⟨w.heap.size, 4, none⟩ (.int .i64 s.c.a1) (Nat.le_refl _)) ⟨w.heap.size, 5, none⟩ (.int .i64 s.c.a2) (Nat.le_refl _)) ⟨w.heap.size, 6, none⟩ (.slice ta s.c.T.length tc) (Nat.le_refl _)) ⟨w.heap.size, 7, none⟩ (.int .i64 s.c.per) (Nat.le_refl _)) ⟨w.heap.size, 8, none⟩ (.int .i64 s.c.ret) (Nat.le_refl _)) ⟨w.heap.size, 9, none⟩ (.int .i64 s.c.age) (Nat.le_refl _)) ⟨w.heap.size, 10, none⟩ (.int .i64 s.c.dead) (Nat.le_refl _))
              have hR10 := (((((((((((HR6.out.set 0 (.int .i64 s.c.k0)).set 1 (.int .i64 s.c.k1)).set 2 (.int .i64 s.c.k2)).set 3 (.int .i64 s.c.a0)).set 4 (.int .i64 s.c.a1)).set 5 (.int .i64 s.c.a2)).set 6 (.slice ta s.c.T.length tc)).set 7 (.int .i64 s.c.per)).set 8 (.int .i64 s.c.ret)).set 9 (.int .i64 s.c.age)).set 10 (.int .i64 s.c.dead))
              have hT10 : OwnR (((((((((((w6.setCell ⟨w.heap.size, 0, none⟩ (.int .i64 s.c.k0)).setCell ⟨w.heap.size, 1, none⟩ (.int .i64 s.c.k1)).setCell ⟨w.heap.size, 2, none⟩ (.int .i64 s.c.k2)).setCell ⟨w.heap.size, 3, none⟩ (.int .i64 s.c.a0)).setCell ⟨w.heap.size, 4, none⟩ (.int .i64 s.c.a1)).setCell ⟨w.heap.size, 5, none⟩ (.int .i64 s.c.a2)).setCell ⟨w.heap.size, 6, none⟩ (.slice ta s.c.T.length tc)).setCell ⟨w.heap.size, 7, none⟩ (.int .i64 s.c.per)).setCell ⟨w.heap.size, 8, none⟩ (.int .i64 s.c.ret)).setCell ⟨w.heap.size, 9, none⟩ (.int .i64 s.c.age)).setCell ⟨w.heap.size, 10, none⟩ (.int .i64 s.c.dead)) w.heap.size 54 5 (.slice ta s.c.T.length tc) s.c.T.length (s.c.T.flatMap ThrV.cells) := own_same (OwnR.mono HT6.out HB1.out.size) (fun g e => by
                have hne : g ≠ w.heap.size := fun q => absurd (own_type HT6.out e).1 (by have := HR1.out.lt; omega)
                simp [heap_set_ne, hne])
              generalize (((((((((((w6.setCell ⟨w.heap.size, 0, none⟩ (.int .i64 s.c.k0)).setCell ⟨w.heap.size, 1, none⟩ (.int .i64 s.c.k1)).setCell ⟨w.heap.size, 2, none⟩ (.int .i64 s.c.k2)).setCell ⟨w.heap.size, 3, none⟩ (.int .i64 s.c.a0)).setCell ⟨w.heap.size, 4, none⟩ (.int .i64 s.c.a1)).setCell ⟨w.heap.size, 5, none⟩ (.int .i64 s.c.a2)).setCell ⟨w.heap.size, 6, none⟩ (.slice ta s.c.T.length tc)).setCell ⟨w.heap.size, 7, none⟩ (.int .i64 s.c.per)).setCell ⟨w.heap.size, 8, none⟩ (.int .i64 s.c.ret)).setCell ⟨w.heap.size, 9, none⟩ (.int .i64 s.c.age)).setCell ⟨w.heap.size, 10, none⟩ (.int .i64 s.c.dead)) = W10 at hb10 hR10 hT10 ⊢
              refine rf_ret7 w.heap.size W10 _ _ _ (s.c) (.slice ta s.c.T.length tc) _ rfl rfl rfl hR10 ⟨?_, hb10⟩
              rw [HCX.out]
              exact ⟨_, rfl, hT10, HRI.out.ok, HRT.out⟩
end Go.Proofs.YtcaenbobfneejaaGreatDoor
