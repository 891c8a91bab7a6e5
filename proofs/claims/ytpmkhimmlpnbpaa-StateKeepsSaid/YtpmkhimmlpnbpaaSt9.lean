
/- state.With, Without: contracts. -/
import Derived.Test.YtpmkhimmlpnbpaaSt8
import Derived.Test.YtpmkhimmlpnbpaaInsEnt
import Derived.Test.YtpmkhimmlpnbpaaGwM
import Derived.Test.YtpmkhimmlpnbpaaPodMath
namespace Go.Proofs.Ytpmkhimmlpnbpaa
open Go.RowKit
set_option linter.unusedVariables false
set_option linter.unusedSimpArgs false
def setsF (C : List Value) (o : Nat) : List Value → List Value
  | [] => C
  | v :: r => setsF (C.set o v) (o + 1) r
theorem setsF_spl : ∀ (vs C : List Value) (o : Nat), o + vs.length ≤ C.length → setsF C o vs = spl C o vs
  | [], C, o, h => by simp [setsF, spl]
  | v :: r, C, o, h => by
    rw [setsF, setsF_spl r (C.set o v) (o + 1) (by simp at h ⊢; omega)]
    unfold spl
    have e := list_seg_step C o v r (by simpa using h)
    rw [show o + 1 + r.length = o + 1 + r.length from rfl, e]
    rfl
theorem spl_take_hi {l : List Value} {o : Nat} {cs : List Value} (h : o + cs.length ≤ l.length) {m : Nat} (hm : o + cs.length ≤ m) : (spl l o cs).take m = spl (l.take m) o cs := by
  apply List.ext_getElem?
  intro j
  rcases Nat.lt_or_ge m l.length with hml | hml
  · have h2 : o + cs.length ≤ (l.take m).length := by rw [List.length_take]; omega
    by_cases hj : j < m
    · rw [List.getElem?_take_of_lt hj]
      rcases Nat.lt_or_ge j o with q | q
      · rw [spl_lo h q, spl_lo h2 q, List.getElem?_take_of_lt hj]
      · rcases Nat.lt_or_ge j (o + cs.length) with q2 | q2
        · obtain ⟨t, rfl⟩ : ∃ t, j = o + t := ⟨j - o, by omega⟩
          rw [spl_in h (by omega), spl_in h2 (by omega)]
        · rw [spl_hi h q2, spl_hi h2 q2, List.getElem?_take_of_lt hj]
    · rw [List.getElem?_take_eq_none (by omega), List.getElem?_eq_none (by rw [spl_len h2, List.length_take]; omega)]
  · rw [List.take_of_length_le hml, List.take_of_length_le (by rw [spl_len h]; omega)]
theorem flat_set {α : Type} {enc : α → List Value} {k : Nat} (hk : ∀ x, (enc x).length = k) (L : List α) (x : α) (p : Nat) (hp : p < L.length) : (L.set p x).flatMap enc = spl (L.flatMap enc) (p * k) (enc x) := by
  have h1 : L.set p x = L.take p ++ x :: L.drop (p + 1) := List.set_eq_take_append_cons_drop.trans (by rw [if_pos hp])
  have h2 : p * k + (enc x).length = (p + 1) * k := by rw [hk, Nat.add_mul]; omega
  unfold spl
  rw [h1, h2, ← flat_takeE hk L p (by omega), ← flat_dropE hk L (p + 1) (by omega), List.flatMap_append, List.flatMap_cons, List.append_assoc]
theorem with_ret (W : World) (R : Nat) (tm : Array Value) (r : Int) (s : Value) (x y z : Bool) (Q : Ending → World → Prop) (h2 : tm.getD 4 undef = .pointer (some ⟨R, 0, none⟩)) (hb : Blk W R [.int .i64 r, s, .bool x, .bool y, .bool z] 25) (hR : Q (.returned (.agg #[.int .i64 r, s, .bool x, .bool y, .bool z])) W) :
    bodyPost Try.prog Try.f23 Q Exit.ret { tmps := tm, defers := [] } W := by
  have z0 := hb.cell (j := 0) rfl
  have z1 := hb.cell (j := 1) rfl
  have z2 := hb.cell (j := 2) rfl
  have z3 := hb.cell (j := 3) rfl
  have z4 := hb.cell (j := 4) rfl
  refine bodyPost_ret (v := .agg #[.int .i64 r, s, .bool x, .bool y, .bool z]) ?_ rfl hR
  simp only [Array.getD_eq_getD_getElem?] at h2
  simp [results, Try.results23, go_sem, h2, z0, z1, z2, z3, z4]
set_option maxRecDepth 100000 in
set_option maxHeartbeats 16000000 in
theorem st_With (r : Int) (a : Option Addr) (n c : Nat) (o : On) (L : List EntV) (x : EntV) (w : World) (hl : L.length = n) (hR : Row w a n c 12 (L.flatMap EntV.cells)) (hn : n ≤ 100000) :
    Calls Try.prog 23 #[.agg #[.int .i64 r, .slice a n c, .bool o.a, .bool o.b, .bool o.c], .agg #[.string x.pod.id, .int .i64 x.pod.prio, .bool x.pod.crit, .int .i64 x.pod.r0, .int .i64 x.pod.r1, .int .i64 x.pod.r2, .int .i64 x.pod.l0, .int .i64 x.pod.l1, .int .i64 x.pod.l2, .string x.pod.img, .int .i64 x.pod.size, .int .i64 x.phase]] w fun e w' => ∃ v, e = .returned (.agg #[.int .i64 r, v, .bool o.a, .bool o.b, .bool o.c]) ∧ OwnR w' w.heap.size 46 12 v (withF L x).length ((withF L x).flatMap EntV.cells) ∧ Below w.heap.size w w' := by
  have HLE := Lib.hid (plF_le L x.pod.id)
  have HR := Lib.hid hR
  have HCP := Lib.hid (fun u (hu : Below w.heap.size w u) => st_place r a n c o L x.pod.id u hl (hR.later hu))
  have HCC := Lib.hid (fun u (hu : Below w.heap.size w u) => cln_allEnt a n c L u hl (hR.later hu) hn)
  clear hR
  obtain ⟨p, hp⟩ : ∃ p, plF L x.pod.id = p := ⟨_, rfl⟩
  obtain ⟨th, hth⟩ : ∃ t, thF L x.pod.id = t := ⟨_, rfl⟩
  have HRES := Lib.hid (show withF L x = (if th then L.set p x else L.take p ++ x :: L.drop p) from by unfold withF; rw [hth, hp])
  rw [hp] at HLE
  rw [hp, hth] at HCP
  have HTH := Lib.hid (fun (h : th = true) => thF_at (hth.trans h))
  rw [hp] at HTH
  clear hp hth
  go_enter Try.func23, Try.ntmps23
  go_upto_region 1 with fail
  have k1 : Below w.heap.size w (w.alloc (.cells #[.int .i64 r, .slice a n c, .bool o.a, .bool o.b, .bool o.c] 25)) := belAlloc (Below.refl _ _) _
  have k2 : Below (w.alloc (.cells #[.int .i64 r, .slice a n c, .bool o.a, .bool o.b, .bool o.c] 25)).heap.size (w.alloc (.cells #[.int .i64 r, .slice a n c, .bool o.a, .bool o.b, .bool o.c] 25)) ((w.alloc (.cells #[.int .i64 r, .slice a n c, .bool o.a, .bool o.b, .bool o.c] 25)).alloc (.cells #[.string x.pod.id, .int .i64 x.pod.prio, .bool x.pod.crit, .int .i64 x.pod.r0, .int .i64 x.pod.r1, .int .i64 x.pod.r2, .int .i64 x.pod.l0, .int .i64 x.pod.l1, .int .i64 x.pod.l2, .string x.pod.img, .int .i64 x.pod.size, .int .i64 x.phase] 46)) := belAlloc (Below.refl _ _) _
  have k3 : Below ((w.alloc (.cells #[.int .i64 r, .slice a n c, .bool o.a, .bool o.b, .bool o.c] 25)).alloc (.cells #[.string x.pod.id, .int .i64 x.pod.prio, .bool x.pod.crit, .int .i64 x.pod.r0, .int .i64 x.pod.r1, .int .i64 x.pod.r2, .int .i64 x.pod.l0, .int .i64 x.pod.l1, .int .i64 x.pod.l2, .string x.pod.img, .int .i64 x.pod.size, .int .i64 x.phase] 46)).heap.size ((w.alloc (.cells #[.int .i64 r, .slice a n c, .bool o.a, .bool o.b, .bool o.c] 25)).alloc (.cells #[.string x.pod.id, .int .i64 x.pod.prio, .bool x.pod.crit, .int .i64 x.pod.r0, .int .i64 x.pod.r1, .int .i64 x.pod.r2, .int .i64 x.pod.l0, .int .i64 x.pod.l1, .int .i64 x.pod.l2, .string x.pod.img, .int .i64 x.pod.size, .int .i64 x.phase] 46)) (((w.alloc (.cells #[.int .i64 r, .slice a n c, .bool o.a, .bool o.b, .bool o.c] 25)).alloc (.cells #[.string x.pod.id, .int .i64 x.pod.prio, .bool x.pod.crit, .int .i64 x.pod.r0, .int .i64 x.pod.r1, .int .i64 x.pod.r2, .int .i64 x.pod.l0, .int .i64 x.pod.l1, .int .i64 x.pod.l2, .string x.pod.img, .int .i64 x.pod.size, .int .i64 x.phase] 46)).alloc (.cells #[.int .i64 0, .slice none 0 0, .bool false, .bool false, .bool false] 25)) := belAlloc (Below.refl _ _) _
  have hs : Blk (((w.alloc (.cells #[.int .i64 r, .slice a n c, .bool o.a, .bool o.b, .bool o.c] 25)).alloc (.cells #[.string x.pod.id, .int .i64 x.pod.prio, .bool x.pod.crit, .int .i64 x.pod.r0, .int .i64 x.pod.r1, .int .i64 x.pod.r2, .int .i64 x.pod.l0, .int .i64 x.pod.l1, .int .i64 x.pod.l2, .string x.pod.img, .int .i64 x.pod.size, .int .i64 x.phase] 46)).alloc (.cells #[.int .i64 0, .slice none 0 0, .bool false, .bool false, .bool false] 25)) w.heap.size [.int .i64 r, .slice a n c, .bool o.a, .bool o.b, .bool o.c] 25 := (Blk.later (Blk.later (Blk.new w [.int .i64 r, .slice a n c, .bool o.a, .bool o.b, .bool o.c] 25) k2) k3)
  have he : Blk (((w.alloc (.cells #[.int .i64 r, .slice a n c, .bool o.a, .bool o.b, .bool o.c] 25)).alloc (.cells #[.string x.pod.id, .int .i64 x.pod.prio, .bool x.pod.crit, .int .i64 x.pod.r0, .int .i64 x.pod.r1, .int .i64 x.pod.r2, .int .i64 x.pod.l0, .int .i64 x.pod.l1, .int .i64 x.pod.l2, .string x.pod.img, .int .i64 x.pod.size, .int .i64 x.phase] 46)).alloc (.cells #[.int .i64 0, .slice none 0 0, .bool false, .bool false, .bool false] 25)) (w.heap.size + 1) [.string x.pod.id, .int .i64 x.pod.prio, .bool x.pod.crit, .int .i64 x.pod.r0, .int .i64 x.pod.r1, .int .i64 x.pod.r2, .int .i64 x.pod.l0, .int .i64 x.pod.l1, .int .i64 x.pod.l2, .string x.pod.img, .int .i64 x.pod.size, .int .i64 x.phase] 46 := (Blk.later (Blk.at (C := [.string x.pod.id, .int .i64 x.pod.prio, .bool x.pod.crit, .int .i64 x.pod.r0, .int .i64 x.pod.r1, .int .i64 x.pod.r2, .int .i64 x.pod.l0, .int .i64 x.pod.l1, .int .i64 x.pod.l2, .string x.pod.img, .int .i64 x.pod.size, .int .i64 x.phase]) (by simp)) k3)
  have hz : Blk (((w.alloc (.cells #[.int .i64 r, .slice a n c, .bool o.a, .bool o.b, .bool o.c] 25)).alloc (.cells #[.string x.pod.id, .int .i64 x.pod.prio, .bool x.pod.crit, .int .i64 x.pod.r0, .int .i64 x.pod.r1, .int .i64 x.pod.r2, .int .i64 x.pod.l0, .int .i64 x.pod.l1, .int .i64 x.pod.l2, .string x.pod.img, .int .i64 x.pod.size, .int .i64 x.phase] 46)).alloc (.cells #[.int .i64 0, .slice none 0 0, .bool false, .bool false, .bool false] 25)) (w.heap.size + 2) [.int .i64 0, .slice none 0 0, .bool false, .bool false, .bool false] 25 := (Blk.at (C := [.int .i64 0, .slice none 0 0, .bool false, .bool false, .bool false]) (by simp))
  have hwb : Below w.heap.size w (((w.alloc (.cells #[.int .i64 r, .slice a n c, .bool o.a, .bool o.b, .bool o.c] 25)).alloc (.cells #[.string x.pod.id, .int .i64 x.pod.prio, .bool x.pod.crit, .int .i64 x.pod.r0, .int .i64 x.pod.r1, .int .i64 x.pod.r2, .int .i64 x.pod.l0, .int .i64 x.pod.l1, .int .i64 x.pod.l2, .string x.pod.img, .int .i64 x.pod.size, .int .i64 x.phase] 46)).alloc (.cells #[.int .i64 0, .slice none 0 0, .bool false, .bool false, .bool false] 25)) := (belStep (belStep k1 k2) k3)
  clear k1 k2 k3
  generalize (((w.alloc (.cells #[.int .i64 r, .slice a n c, .bool o.a, .bool o.b, .bool o.c] 25)).alloc (.cells #[.string x.pod.id, .int .i64 x.pod.prio, .bool x.pod.crit, .int .i64 x.pod.r0, .int .i64 x.pod.r1, .int .i64 x.pod.r2, .int .i64 x.pod.l0, .int .i64 x.pod.l1, .int .i64 x.pod.l2, .string x.pod.img, .int .i64 x.pod.size, .int .i64 x.phase] 46)).alloc (.cells #[.int .i64 0, .slice none 0 0, .bool false, .bool false, .bool false] 25)) = W1 at *
  have hz1 : w.heap.size + 3 ≤ W1.heap.size := by have := hz.lt; omega
  have EB := Lib.hid (fun u (hu : Below W1.heap.size W1 u) => he.later hu)
  have e0 := keep (he.cell (j := 0) rfl)
  have e1 := keep (he.cell (j := 1) rfl)
  have e2 := keep (he.cell (j := 2) rfl)
  have e3 := keep (he.cell (j := 3) rfl)
  have e4 := keep (he.cell (j := 4) rfl)
  have e5 := keep (he.cell (j := 5) rfl)
  have e6 := keep (he.cell (j := 6) rfl)
  have e7 := keep (he.cell (j := 7) rfl)
  have e8 := keep (he.cell (j := 8) rfl)
  have e9 := keep (he.cell (j := 9) rfl)
  have e10 := keep (he.cell (j := 10) rfl)
  have e11 := keep (he.cell (j := 11) rfl)
  clear he
  have ZB := Lib.hid (fun u (hu : Below W1.heap.size W1 u) => hz.later hu)
  clear hz
  have HS := Lib.hid hs
  have s0 := hs.cell (j := 0) rfl
  have s1 := hs.cell (j := 1) rfl
  have s2 := hs.cell (j := 2) rfl
  have s3 := hs.cell (j := 3) rfl
  have s4 := hs.cell (j := 4) rfl
  clear hs
  have HB1 := Lib.hid hwb
  have CP := Lib.hid (HCP.out W1 hwb)
  clear hwb HCP
  have hbel : Below W1.heap.size W1 W1 := Below.refl _ _
  go_upto_region 2 with (go_at_call 43; (with_reducible refine (CP.out).mono ?_); rintro e v1 ⟨rfl, hb1⟩)
  replace hbel := hb1
  have HS1 := Lib.hid (HS.out.later hb1)
  have HB2 := Lib.hid (belStep HB1.out hb1)
  have hv1 := hb1.size
  clear s0 s1 s2 s3 s4 hb1
  have s1 := HS1.out.cell (j := 1) rfl
  have CC := Lib.hid (HCC.out v1 HB2.out)
  clear HCC CP HS
  go_upto_region 3 with (go_at_call 44; (with_reducible refine (CC.out).mono ?_); rintro e v2 ⟨sv, rfl, ho2, hb2⟩; obtain ⟨sa, sC, rfl, _⟩ := rowR_of_own ho2; have s1b := (HS1.out.later hb2).cell (j := 1) rfl; have sf := (HS1.out.later hb2).frozen)
  have HS2 := Lib.hid ((HS1.out.later hb2).set 1 (.slice sa n sC))
  have HO2 := Lib.hid (OwnR.setCell ho2 (a := ⟨w.heap.size, 1, none⟩) (show w.heap.size < v1.heap.size by omega) (.slice sa n sC))
  have hb3 := belStep hbel hb2
  have HB3 := Lib.hid (belSet (belStep HB2.out hb2) ⟨w.heap.size, 1, none⟩ (.slice sa n sC) (Nat.le_refl _))
  have HE2 := Lib.hid ((EB.out _ hb3).far (a := ⟨w.heap.size, 1, none⟩) (show w.heap.size ≠ (w.heap.size + 1) by omega) (.slice sa n sC))
  clear EB e0 e1 e2 e3 e4 e5 e6 e7 e8 e9 e10 e11
  have HZ2 := Lib.hid ((ZB.out _ hb3).far (a := ⟨w.heap.size, 1, none⟩) (show w.heap.size ≠ (w.heap.size + 1 + 1) by omega) (.slice sa n sC))
  have hv2 : v1.heap.size ≤ v2.heap.size := hb2.size
  have hsz2 : v1.heap.size ≤ (v2.setCell ⟨w.heap.size, 1, none⟩ (.slice sa n sC)).heap.size := by simpa using hv2
  clear ZB hb3 hb2 ho2 s1 s1b sf hbel HS1
  generalize v2.setCell ⟨w.heap.size, 1, none⟩ (.slice sa n sC) = W2 at *
  have hbel : Below W2.heap.size W2 W2 := Below.refl _ _
  cases th with
  | false =>
    have s1 := HS2.out.cell (j := 1) rfl
    have sf := HS2.out.frozen
    have e0 := HE2.out.cell (j := 0) rfl
    have e1 := HE2.out.cell (j := 1) rfl
    have e2 := HE2.out.cell (j := 2) rfl
    have e3 := HE2.out.cell (j := 3) rfl
    have e4 := HE2.out.cell (j := 4) rfl
    have e5 := HE2.out.cell (j := 5) rfl
    have e6 := HE2.out.cell (j := 6) rfl
    have e7 := HE2.out.cell (j := 7) rfl
    have e8 := HE2.out.cell (j := 8) rfl
    have e9 := HE2.out.cell (j := 9) rfl
    have e10 := HE2.out.cell (j := 10) rfl
    have e11 := HE2.out.cell (j := 11) rfl
    have hbA : Below W2.heap.size W2 (W2.alloc (.cells #[.string x.pod.id, .int .i64 x.pod.prio, .bool x.pod.crit, .int .i64 x.pod.r0, .int .i64 x.pod.r1, .int .i64 x.pod.r2, .int .i64 x.pod.l0, .int .i64 x.pod.l1, .int .i64 x.pod.l2, .string x.pod.img, .int .i64 x.pod.size, .int .i64 x.phase] 46)) := belAlloc hbel _
    have hxb : Blk (W2.alloc (.cells #[.string x.pod.id, .int .i64 x.pod.prio, .bool x.pod.crit, .int .i64 x.pod.r0, .int .i64 x.pod.r1, .int .i64 x.pod.r2, .int .i64 x.pod.l0, .int .i64 x.pod.l1, .int .i64 x.pod.l2, .string x.pod.img, .int .i64 x.pod.size, .int .i64 x.phase] 46)) W2.heap.size x.cells 46 := Blk.new W2 [.string x.pod.id, .int .i64 x.pod.prio, .bool x.pod.crit, .int .i64 x.pod.r0, .int .i64 x.pod.r1, .int .i64 x.pod.r2, .int .i64 x.pod.l0, .int .i64 x.pod.l1, .int .i64 x.pod.l2, .string x.pod.img, .int .i64 x.pod.size, .int .i64 x.phase] 46
    have CI := Lib.hid (ins_allEnt v1.heap.size n p (.slice sa n sC) L x W2.heap.size (W2.alloc (.cells #[.string x.pod.id, .int .i64 x.pod.prio, .bool x.pod.crit, .int .i64 x.pod.r0, .int .i64 x.pod.r1, .int .i64 x.pod.r2, .int .i64 x.pod.l0, .int .i64 x.pod.l1, .int .i64 x.pod.l2, .string x.pod.img, .int .i64 x.pod.size, .int .i64 x.phase] 46)) (HO2.out.later hbA) hl hn (by have := HLE.out; omega) hxb (own_ne_new HO2.out (Nat.le_refl _)) (by have := hbA.size; omega))
    have HSA := Lib.hid (HS2.out.later hbA)
    have HZA := Lib.hid (HZ2.out.later hbA)
    have HBA := Lib.hid (belStep HB3.out hbA)
    have hne : ∀ q, q < v1.heap.size → (Value.slice sa n sC).ownBlock ≠ some q := fun q hq e => absurd (World.ownsRow.lt HO2.out _ e).1 (by omega)
    clear hbA hxb
    go_upto_region 6 with (go_at_call 45; (with_reducible refine (CI.out).mono ?_); rintro e v3 ⟨tv, rfl, ho3, hb3, hg3, hm3⟩; obtain ⟨ta, tC, rfl, _⟩ := rowR_of_own ho3; have s1b := (HSA.out.grown hg3 (hne _ (by omega))).cell (j := 1) rfl; have sg := (HSA.out.grown hg3 (hne _ (by omega))).frozen)
    have HS4 := Lib.hid ((HSA.out.grown hg3 (hne _ (by omega))).set 1 (.slice ta (n + 1) tC))
    have HZ4 := Lib.hid ((HZA.out.grown hg3 (hne (w.heap.size + 1 + 1) (by omega))).far (a := ⟨w.heap.size, 1, none⟩) (show w.heap.size ≠ (w.heap.size + 1 + 1) by omega) (.slice ta (n + 1) tC))
    have HO4 := Lib.hid (show OwnR (v3.setCell ⟨w.heap.size, 1, none⟩ (.slice ta (n + 1) tC)) v1.heap.size 46 12 (.slice ta (n + 1) tC) (L.take p ++ x :: L.drop p).length ((L.take p ++ x :: L.drop p).flatMap EntV.cells) from by rw [show (L.take p ++ x :: L.drop p).length = n + 1 by have := HLE.out; simp; omega]; exact OwnR.setCell ho3 (a := ⟨w.heap.size, 1, none⟩) (show w.heap.size < v1.heap.size by omega) (.slice ta (n + 1) tC))
    have HB4 := Lib.hid (belSet (HBA.out.trans (hb3.mono (by omega))) ⟨w.heap.size, 1, none⟩ (.slice ta (n + 1) tC) (Nat.le_refl _))
    clear e0 e1 e2 e3 e4 e5 e6 e7 e8 e9 e10 e11 s1 s1b sg sf hb3 hg3 ho3 hm3 hbel
    generalize v3.setCell ⟨w.heap.size, 1, none⟩ (.slice ta (n + 1) tC) = W4 at *
    have hbel : Below W4.heap.size W4 W4 := Below.refl _ _
    have z0 := HZ4.out.cell (j := 0) rfl
    have z1 := HZ4.out.cell (j := 1) rfl
    have z2 := HZ4.out.cell (j := 2) rfl
    have z3 := HZ4.out.cell (j := 3) rfl
    have z4 := HZ4.out.cell (j := 4) rfl
    have zf := HZ4.out.frozen
    have s0 := HS4.out.cell (j := 0) rfl
    have s1 := HS4.out.cell (j := 1) rfl
    have s2 := HS4.out.cell (j := 2) rfl
    have s3 := HS4.out.cell (j := 3) rfl
    have s4 := HS4.out.cell (j := 4) rfl
    go_wp2
    refine with_ret _ (w.heap.size + 1 + 1) _ r ((.slice ta (n + 1) tC)) o.a o.b o.c _ rfl (((((HZ4.out.set 0 (.int .i64 r)).set 1 ((.slice ta (n + 1) tC))).set 2 (.bool o.a)).set 3 (.bool o.b)).set 4 (.bool o.c)) ⟨(.slice ta (n + 1) tC), rfl, ?_, (belSet (belSet (belSet (belSet (belSet HB4.out ⟨(w.heap.size + 1 + 1), 0, none⟩ (.int .i64 r) (show w.heap.size ≤ (w.heap.size + 1 + 1) by omega)) ⟨(w.heap.size + 1 + 1), 1, none⟩ ((.slice ta (n + 1) tC)) (show w.heap.size ≤ (w.heap.size + 1 + 1) by omega)) ⟨(w.heap.size + 1 + 1), 2, none⟩ (.bool o.a) (show w.heap.size ≤ (w.heap.size + 1 + 1) by omega)) ⟨(w.heap.size + 1 + 1), 3, none⟩ (.bool o.b) (show w.heap.size ≤ (w.heap.size + 1 + 1) by omega)) ⟨(w.heap.size + 1 + 1), 4, none⟩ (.bool o.c) (show w.heap.size ≤ (w.heap.size + 1 + 1) by omega))⟩
    rw [HRES.out]; simp only [Bool.false_eq_true, if_false, if_true]
    exact OwnR.mono (OwnR.setCell (OwnR.setCell (OwnR.setCell (OwnR.setCell (OwnR.setCell HO4.out (a := ⟨(w.heap.size + 1 + 1), 0, none⟩) (show (w.heap.size + 1 + 1) < v1.heap.size by omega) (.int .i64 r)) (a := ⟨(w.heap.size + 1 + 1), 1, none⟩) (show (w.heap.size + 1 + 1) < v1.heap.size by omega) ((.slice ta (n + 1) tC))) (a := ⟨(w.heap.size + 1 + 1), 2, none⟩) (show (w.heap.size + 1 + 1) < v1.heap.size by omega) (.bool o.a)) (a := ⟨(w.heap.size + 1 + 1), 3, none⟩) (show (w.heap.size + 1 + 1) < v1.heap.size by omega) (.bool o.b)) (a := ⟨(w.heap.size + 1 + 1), 4, none⟩) (show (w.heap.size + 1 + 1) < v1.heap.size by omega) (.bool o.c)) (by omega)
  | true =>
    obtain ⟨y, hy, _⟩ := HTH.out rfl
    have hpn : p < n := by have := (List.getElem?_eq_some_iff.1 hy).1; omega
    have hpi : (p : Int) < (n : Int) := by omega
    have hp0 : (0 : Int) ≤ (p : Int) := by omega
    obtain ⟨g, cap, C, hsv, hBg, hCb, hnc, hcm, hCl, hCt⟩ : ∃ g cap C, (Value.slice sa n sC) = .slice (some ⟨g, 0, none⟩) n cap ∧ v1.heap.size ≤ g ∧ Blk W2 g C 46 ∧ n ≤ cap ∧ cap ≤ maxLen ∧ C.length = cap * 12 ∧ C.take (n * 12) = L.flatMap EntV.cells := by
      rcases own_open HO2.out with ⟨_, h0, _⟩ | h
      · omega
      · exact h
    cases hsv
    have s1 := HS2.out.cell (j := 1) rfl
    have sf := HS2.out.frozen
    have e0 := HE2.out.cell (j := 0) rfl
    have e1 := HE2.out.cell (j := 1) rfl
    have e2 := HE2.out.cell (j := 2) rfl
    have e3 := HE2.out.cell (j := 3) rfl
    have e4 := HE2.out.cell (j := 4) rfl
    have e5 := HE2.out.cell (j := 5) rfl
    have e6 := HE2.out.cell (j := 6) rfl
    have e7 := HE2.out.cell (j := 7) rfl
    have e8 := HE2.out.cell (j := 8) rfl
    have e9 := HE2.out.cell (j := 9) rfl
    have e10 := HE2.out.cell (j := 10) rfl
    have e11 := HE2.out.cell (j := 11) rfl
    have hCfit : p * 12 + 12 ≤ C.length := by rw [hCl]; omega
    have g0 : W2.cell? ⟨g, p * 12, none⟩ = some (C[p * 12]'(by omega)) := hCb.cell (List.getElem?_eq_getElem (by omega))
    have g1 : W2.cell? ⟨g, p * 12 + 1, none⟩ = some (C[p * 12 + 1]'(by omega)) := hCb.cell (List.getElem?_eq_getElem (by omega))
    have g2 : W2.cell? ⟨g, p * 12 + 2, none⟩ = some (C[p * 12 + 2]'(by omega)) := hCb.cell (List.getElem?_eq_getElem (by omega))
    have g3 : W2.cell? ⟨g, p * 12 + 3, none⟩ = some (C[p * 12 + 3]'(by omega)) := hCb.cell (List.getElem?_eq_getElem (by omega))
    have g4 : W2.cell? ⟨g, p * 12 + 4, none⟩ = some (C[p * 12 + 4]'(by omega)) := hCb.cell (List.getElem?_eq_getElem (by omega))
    have g5 : W2.cell? ⟨g, p * 12 + 5, none⟩ = some (C[p * 12 + 5]'(by omega)) := hCb.cell (List.getElem?_eq_getElem (by omega))
    have g6 : W2.cell? ⟨g, p * 12 + 6, none⟩ = some (C[p * 12 + 6]'(by omega)) := hCb.cell (List.getElem?_eq_getElem (by omega))
    have g7 : W2.cell? ⟨g, p * 12 + 7, none⟩ = some (C[p * 12 + 7]'(by omega)) := hCb.cell (List.getElem?_eq_getElem (by omega))
    have g8 : W2.cell? ⟨g, p * 12 + 8, none⟩ = some (C[p * 12 + 8]'(by omega)) := hCb.cell (List.getElem?_eq_getElem (by omega))
    have g9 : W2.cell? ⟨g, p * 12 + 9, none⟩ = some (C[p * 12 + 9]'(by omega)) := hCb.cell (List.getElem?_eq_getElem (by omega))
    have g10 : W2.cell? ⟨g, p * 12 + 10, none⟩ = some (C[p * 12 + 10]'(by omega)) := hCb.cell (List.getElem?_eq_getElem (by omega))
    have g11 : W2.cell? ⟨g, p * 12 + 11, none⟩ = some (C[p * 12 + 11]'(by omega)) := hCb.cell (List.getElem?_eq_getElem (by omega))
    have gf := hCb.frozen
    have HG := Lib.hid ((((((((((((hCb.set (p * 12) (.string x.pod.id)).set ((p * 12 + 1)) (.int .i64 x.pod.prio)).set ((p * 12 + 2)) (.bool x.pod.crit)).set ((p * 12 + 3)) (.int .i64 x.pod.r0)).set ((p * 12 + 4)) (.int .i64 x.pod.r1)).set ((p * 12 + 5)) (.int .i64 x.pod.r2)).set ((p * 12 + 6)) (.int .i64 x.pod.l0)).set ((p * 12 + 7)) (.int .i64 x.pod.l1)).set ((p * 12 + 8)) (.int .i64 x.pod.l2)).set ((p * 12 + 9)) (.string x.pod.img)).set ((p * 12 + 10)) (.int .i64 x.pod.size)).set ((p * 12 + 11)) (.int .i64 x.phase))
    have HS4 := Lib.hid ((((((((((((HS2.out.far (a := ⟨g, p * 12, none⟩) (show g ≠ w.heap.size by omega) (.string x.pod.id)).far (a := ⟨g, (p * 12 + 1), none⟩) (show g ≠ w.heap.size by omega) (.int .i64 x.pod.prio)).far (a := ⟨g, (p * 12 + 2), none⟩) (show g ≠ w.heap.size by omega) (.bool x.pod.crit)).far (a := ⟨g, (p * 12 + 3), none⟩) (show g ≠ w.heap.size by omega) (.int .i64 x.pod.r0)).far (a := ⟨g, (p * 12 + 4), none⟩) (show g ≠ w.heap.size by omega) (.int .i64 x.pod.r1)).far (a := ⟨g, (p * 12 + 5), none⟩) (show g ≠ w.heap.size by omega) (.int .i64 x.pod.r2)).far (a := ⟨g, (p * 12 + 6), none⟩) (show g ≠ w.heap.size by omega) (.int .i64 x.pod.l0)).far (a := ⟨g, (p * 12 + 7), none⟩) (show g ≠ w.heap.size by omega) (.int .i64 x.pod.l1)).far (a := ⟨g, (p * 12 + 8), none⟩) (show g ≠ w.heap.size by omega) (.int .i64 x.pod.l2)).far (a := ⟨g, (p * 12 + 9), none⟩) (show g ≠ w.heap.size by omega) (.string x.pod.img)).far (a := ⟨g, (p * 12 + 10), none⟩) (show g ≠ w.heap.size by omega) (.int .i64 x.pod.size)).far (a := ⟨g, (p * 12 + 11), none⟩) (show g ≠ w.heap.size by omega) (.int .i64 x.phase))
    have HZ4 := Lib.hid ((((((((((((HZ2.out.far (a := ⟨g, p * 12, none⟩) (show g ≠ (w.heap.size + 1 + 1) by omega) (.string x.pod.id)).far (a := ⟨g, (p * 12 + 1), none⟩) (show g ≠ (w.heap.size + 1 + 1) by omega) (.int .i64 x.pod.prio)).far (a := ⟨g, (p * 12 + 2), none⟩) (show g ≠ (w.heap.size + 1 + 1) by omega) (.bool x.pod.crit)).far (a := ⟨g, (p * 12 + 3), none⟩) (show g ≠ (w.heap.size + 1 + 1) by omega) (.int .i64 x.pod.r0)).far (a := ⟨g, (p * 12 + 4), none⟩) (show g ≠ (w.heap.size + 1 + 1) by omega) (.int .i64 x.pod.r1)).far (a := ⟨g, (p * 12 + 5), none⟩) (show g ≠ (w.heap.size + 1 + 1) by omega) (.int .i64 x.pod.r2)).far (a := ⟨g, (p * 12 + 6), none⟩) (show g ≠ (w.heap.size + 1 + 1) by omega) (.int .i64 x.pod.l0)).far (a := ⟨g, (p * 12 + 7), none⟩) (show g ≠ (w.heap.size + 1 + 1) by omega) (.int .i64 x.pod.l1)).far (a := ⟨g, (p * 12 + 8), none⟩) (show g ≠ (w.heap.size + 1 + 1) by omega) (.int .i64 x.pod.l2)).far (a := ⟨g, (p * 12 + 9), none⟩) (show g ≠ (w.heap.size + 1 + 1) by omega) (.string x.pod.img)).far (a := ⟨g, (p * 12 + 10), none⟩) (show g ≠ (w.heap.size + 1 + 1) by omega) (.int .i64 x.pod.size)).far (a := ⟨g, (p * 12 + 11), none⟩) (show g ≠ (w.heap.size + 1 + 1) by omega) (.int .i64 x.phase))
    have HB4 := Lib.hid (belSet (belSet (belSet (belSet (belSet (belSet (belSet (belSet (belSet (belSet (belSet (belSet HB3.out ⟨g, p * 12, none⟩ (.string x.pod.id) (show w.heap.size ≤ g by omega)) ⟨g, (p * 12 + 1), none⟩ (.int .i64 x.pod.prio) (show w.heap.size ≤ g by omega)) ⟨g, (p * 12 + 2), none⟩ (.bool x.pod.crit) (show w.heap.size ≤ g by omega)) ⟨g, (p * 12 + 3), none⟩ (.int .i64 x.pod.r0) (show w.heap.size ≤ g by omega)) ⟨g, (p * 12 + 4), none⟩ (.int .i64 x.pod.r1) (show w.heap.size ≤ g by omega)) ⟨g, (p * 12 + 5), none⟩ (.int .i64 x.pod.r2) (show w.heap.size ≤ g by omega)) ⟨g, (p * 12 + 6), none⟩ (.int .i64 x.pod.l0) (show w.heap.size ≤ g by omega)) ⟨g, (p * 12 + 7), none⟩ (.int .i64 x.pod.l1) (show w.heap.size ≤ g by omega)) ⟨g, (p * 12 + 8), none⟩ (.int .i64 x.pod.l2) (show w.heap.size ≤ g by omega)) ⟨g, (p * 12 + 9), none⟩ (.string x.pod.img) (show w.heap.size ≤ g by omega)) ⟨g, (p * 12 + 10), none⟩ (.int .i64 x.pod.size) (show w.heap.size ≤ g by omega)) ⟨g, (p * 12 + 11), none⟩ (.int .i64 x.phase) (show w.heap.size ≤ g by omega))
    have HCT := Lib.hid hCt
    have HCL := Lib.hid hCl
    have HCF := Lib.hid hCfit
    clear hCb hCt
    go_upto_region 6 with fail
    clear g0 g1 g2 g3 g4 g5 g6 g7 g8 g9 g10 g11 gf e0 e1 e2 e3 e4 e5 e6 e7 e8 e9 e10 e11 s1 sf hbel
    clear hCl hCfit
    generalize ((((((((((((W2.setCell ⟨g, p * 12, none⟩ (.string x.pod.id)).setCell ⟨g, (p * 12 + 1), none⟩ (.int .i64 x.pod.prio)).setCell ⟨g, (p * 12 + 2), none⟩ (.bool x.pod.crit)).setCell ⟨g, (p * 12 + 3), none⟩ (.int .i64 x.pod.r0)).setCell ⟨g, (p * 12 + 4), none⟩ (.int .i64 x.pod.r1)).setCell ⟨g, (p * 12 + 5), none⟩ (.int .i64 x.pod.r2)).setCell ⟨g, (p * 12 + 6), none⟩ (.int .i64 x.pod.l0)).setCell ⟨g, (p * 12 + 7), none⟩ (.int .i64 x.pod.l1)).setCell ⟨g, (p * 12 + 8), none⟩ (.int .i64 x.pod.l2)).setCell ⟨g, (p * 12 + 9), none⟩ (.string x.pod.img)).setCell ⟨g, (p * 12 + 10), none⟩ (.int .i64 x.pod.size)).setCell ⟨g, (p * 12 + 11), none⟩ (.int .i64 x.phase)) = W4 at *
    have hbel : Below W4.heap.size W4 W4 := Below.refl _ _
    have HO4 := Lib.hid (show OwnR W4 v1.heap.size 46 12 (.slice (some ⟨g, 0, none⟩) n sC) (L.set p x).length ((L.set p x).flatMap EntV.cells) from by
      rw [List.length_set, hl]
      have e9 : setsF C (p * 12) x.cells = spl C (p * 12) x.cells := setsF_spl x.cells C (p * 12) HCF.out
      have hq : Blk W4 g (spl C (p * 12) x.cells) 46 := e9 ▸ HG.out
      exact own_of hBg hq hnc hcm (by rw [spl_len (by exact HCF.out), HCL.out]) (by rw [spl_take_hi (by exact HCF.out) (show p * 12 + x.cells.length ≤ n * 12 by show p * 12 + 12 ≤ n * 12; omega), HCT.out, flat_set len_entI L x p (by omega)]))
    have z0 := HZ4.out.cell (j := 0) rfl
    have z1 := HZ4.out.cell (j := 1) rfl
    have z2 := HZ4.out.cell (j := 2) rfl
    have z3 := HZ4.out.cell (j := 3) rfl
    have z4 := HZ4.out.cell (j := 4) rfl
    have zf := HZ4.out.frozen
    have s0 := HS4.out.cell (j := 0) rfl
    have s1 := HS4.out.cell (j := 1) rfl
    have s2 := HS4.out.cell (j := 2) rfl
    have s3 := HS4.out.cell (j := 3) rfl
    have s4 := HS4.out.cell (j := 4) rfl
    go_wp2
    refine with_ret _ (w.heap.size + 1 + 1) _ r ((.slice (some ⟨g, 0, none⟩) n sC)) o.a o.b o.c _ rfl (((((HZ4.out.set 0 (.int .i64 r)).set 1 ((.slice (some ⟨g, 0, none⟩) n sC))).set 2 (.bool o.a)).set 3 (.bool o.b)).set 4 (.bool o.c)) ⟨(.slice (some ⟨g, 0, none⟩) n sC), rfl, ?_, (belSet (belSet (belSet (belSet (belSet HB4.out ⟨(w.heap.size + 1 + 1), 0, none⟩ (.int .i64 r) (show w.heap.size ≤ (w.heap.size + 1 + 1) by omega)) ⟨(w.heap.size + 1 + 1), 1, none⟩ ((.slice (some ⟨g, 0, none⟩) n sC)) (show w.heap.size ≤ (w.heap.size + 1 + 1) by omega)) ⟨(w.heap.size + 1 + 1), 2, none⟩ (.bool o.a) (show w.heap.size ≤ (w.heap.size + 1 + 1) by omega)) ⟨(w.heap.size + 1 + 1), 3, none⟩ (.bool o.b) (show w.heap.size ≤ (w.heap.size + 1 + 1) by omega)) ⟨(w.heap.size + 1 + 1), 4, none⟩ (.bool o.c) (show w.heap.size ≤ (w.heap.size + 1 + 1) by omega))⟩
    rw [HRES.out]; simp only [Bool.false_eq_true, if_false, if_true]
    exact OwnR.mono (OwnR.setCell (OwnR.setCell (OwnR.setCell (OwnR.setCell (OwnR.setCell HO4.out (a := ⟨(w.heap.size + 1 + 1), 0, none⟩) (show (w.heap.size + 1 + 1) < v1.heap.size by omega) (.int .i64 r)) (a := ⟨(w.heap.size + 1 + 1), 1, none⟩) (show (w.heap.size + 1 + 1) < v1.heap.size by omega) ((.slice (some ⟨g, 0, none⟩) n sC))) (a := ⟨(w.heap.size + 1 + 1), 2, none⟩) (show (w.heap.size + 1 + 1) < v1.heap.size by omega) (.bool o.a)) (a := ⟨(w.heap.size + 1 + 1), 3, none⟩) (show (w.heap.size + 1 + 1) < v1.heap.size by omega) (.bool o.b)) (a := ⟨(w.heap.size + 1 + 1), 4, none⟩) (show (w.heap.size + 1 + 1) < v1.heap.size by omega) (.bool o.c)) (by omega)
theorem without_ret (W : World) (R : Nat) (tm : Array Value) (r : Int) (s : Value) (x y z : Bool) (Q : Ending → World → Prop) (h2 : tm.getD 4 undef = .pointer (some ⟨R, 0, none⟩)) (hb : Blk W R [.int .i64 r, s, .bool x, .bool y, .bool z] 25) (hR : Q (.returned (.agg #[.int .i64 r, s, .bool x, .bool y, .bool z])) W) :
    bodyPost Try.prog Try.f24 Q Exit.ret { tmps := tm, defers := [] } W := by
  have z0 := hb.cell (j := 0) rfl
  have z1 := hb.cell (j := 1) rfl
  have z2 := hb.cell (j := 2) rfl
  have z3 := hb.cell (j := 3) rfl
  have z4 := hb.cell (j := 4) rfl
  refine bodyPost_ret (v := .agg #[.int .i64 r, s, .bool x, .bool y, .bool z]) ?_ rfl hR
  simp only [Array.getD_eq_getD_getElem?] at h2
  simp [results, Try.results24, go_sem, h2, z0, z1, z2, z3, z4]
set_option maxRecDepth 100000 in
set_option maxHeartbeats 16000000 in
theorem st_Without (r : Int) (a : Option Addr) (n c : Nat) (o : On) (L : List EntV) (s : ByteArray) (w : World) (hl : L.length = n) (hR : Row w a n c 12 (L.flatMap EntV.cells)) (hn : n ≤ 100000) :
    Calls Try.prog 24 #[.agg #[.int .i64 r, .slice a n c, .bool o.a, .bool o.b, .bool o.c], .string s] w fun e w' => ∃ v, e = .returned (.agg #[.int .i64 r, v, .bool o.a, .bool o.b, .bool o.c]) ∧ OwnR w' w.heap.size 46 12 v (woutF L s).length ((woutF L s).flatMap EntV.cells) ∧ Below w.heap.size w w' := by
  have HLE := Lib.hid (plF_le L s)
  have HR := Lib.hid hR
  have HCP := Lib.hid (fun u (hu : Below w.heap.size w u) => st_place r a n c o L s u hl (hR.later hu))
  have HCC := Lib.hid (fun u (hu : Below w.heap.size w u) => cln_allEnt a n c L u hl (hR.later hu) hn)
  clear hR
  obtain ⟨p, hp⟩ : ∃ p, plF L s = p := ⟨_, rfl⟩
  obtain ⟨th, hth⟩ : ∃ t, thF L s = t := ⟨_, rfl⟩
  have HRES := Lib.hid (show woutF L s = (if th then L.take p ++ L.drop (p + 1) else L) from by unfold woutF; rw [hth, hp])
  rw [hp] at HLE
  rw [hp, hth] at HCP
  have HTH := Lib.hid (fun (h : th = true) => thF_at (hth.trans h))
  rw [hp] at HTH
  clear hp hth
  go_enter Try.func24, Try.ntmps24
  go_upto_region 1 with fail
  have k1 : Below w.heap.size w (w.alloc (.cells #[.int .i64 r, .slice a n c, .bool o.a, .bool o.b, .bool o.c] 25)) := belAlloc (Below.refl _ _) _
  have k2 : Below (w.alloc (.cells #[.int .i64 r, .slice a n c, .bool o.a, .bool o.b, .bool o.c] 25)).heap.size (w.alloc (.cells #[.int .i64 r, .slice a n c, .bool o.a, .bool o.b, .bool o.c] 25)) ((w.alloc (.cells #[.int .i64 r, .slice a n c, .bool o.a, .bool o.b, .bool o.c] 25)).alloc (.cells #[.int .i64 0, .slice none 0 0, .bool false, .bool false, .bool false] 25)) := belAlloc (Below.refl _ _) _
  have hs : Blk ((w.alloc (.cells #[.int .i64 r, .slice a n c, .bool o.a, .bool o.b, .bool o.c] 25)).alloc (.cells #[.int .i64 0, .slice none 0 0, .bool false, .bool false, .bool false] 25)) w.heap.size [.int .i64 r, .slice a n c, .bool o.a, .bool o.b, .bool o.c] 25 := (Blk.later (Blk.new w [.int .i64 r, .slice a n c, .bool o.a, .bool o.b, .bool o.c] 25) k2)
  have hz : Blk ((w.alloc (.cells #[.int .i64 r, .slice a n c, .bool o.a, .bool o.b, .bool o.c] 25)).alloc (.cells #[.int .i64 0, .slice none 0 0, .bool false, .bool false, .bool false] 25)) (w.heap.size + 1) [.int .i64 0, .slice none 0 0, .bool false, .bool false, .bool false] 25 := (Blk.at (C := [.int .i64 0, .slice none 0 0, .bool false, .bool false, .bool false]) (by simp))
  have hwb : Below w.heap.size w ((w.alloc (.cells #[.int .i64 r, .slice a n c, .bool o.a, .bool o.b, .bool o.c] 25)).alloc (.cells #[.int .i64 0, .slice none 0 0, .bool false, .bool false, .bool false] 25)) := (belStep k1 k2)
  clear k1 k2
  generalize ((w.alloc (.cells #[.int .i64 r, .slice a n c, .bool o.a, .bool o.b, .bool o.c] 25)).alloc (.cells #[.int .i64 0, .slice none 0 0, .bool false, .bool false, .bool false] 25)) = W1 at *
  have hz1 : w.heap.size + 2 ≤ W1.heap.size := by have := hz.lt; omega
  have ZB := Lib.hid (fun u (hu : Below W1.heap.size W1 u) => hz.later hu)
  clear hz
  have HS := Lib.hid hs
  have s0 := hs.cell (j := 0) rfl
  have s1 := hs.cell (j := 1) rfl
  have s2 := hs.cell (j := 2) rfl
  have s3 := hs.cell (j := 3) rfl
  have s4 := hs.cell (j := 4) rfl
  clear hs
  have HB1 := Lib.hid hwb
  have CP := Lib.hid (HCP.out W1 hwb)
  clear hwb HCP
  have hbel : Below W1.heap.size W1 W1 := Below.refl _ _
  go_upto_region 2 with (go_at_call 43; (with_reducible refine (CP.out).mono ?_); rintro e v1 ⟨rfl, hb1⟩)
  replace hbel := hb1
  have HS1 := Lib.hid (HS.out.later hb1)
  have HB2 := Lib.hid (belStep HB1.out hb1)
  have hv1 := hb1.size
  clear s0 s1 s2 s3 s4 hb1
  have s1 := HS1.out.cell (j := 1) rfl
  have CC := Lib.hid (HCC.out v1 HB2.out)
  clear HCC CP HS
  go_upto_region 3 with (go_at_call 44; (with_reducible refine (CC.out).mono ?_); rintro e v2 ⟨sv, rfl, ho2, hb2⟩; obtain ⟨sa, sC, rfl, _⟩ := rowR_of_own ho2; have s1b := (HS1.out.later hb2).cell (j := 1) rfl; have sf := (HS1.out.later hb2).frozen)
  have HS2 := Lib.hid ((HS1.out.later hb2).set 1 (.slice sa n sC))
  have HO2 := Lib.hid (OwnR.setCell ho2 (a := ⟨w.heap.size, 1, none⟩) (show w.heap.size < v1.heap.size by omega) (.slice sa n sC))
  have hb3 := belStep hbel hb2
  have HB3 := Lib.hid (belSet (belStep HB2.out hb2) ⟨w.heap.size, 1, none⟩ (.slice sa n sC) (Nat.le_refl _))
  have HZ2 := Lib.hid ((ZB.out _ hb3).far (a := ⟨w.heap.size, 1, none⟩) (show w.heap.size ≠ (w.heap.size + 1) by omega) (.slice sa n sC))
  have hv2 : v1.heap.size ≤ v2.heap.size := hb2.size
  have hsz2 : v1.heap.size ≤ (v2.setCell ⟨w.heap.size, 1, none⟩ (.slice sa n sC)).heap.size := by simpa using hv2
  clear ZB hb3 hb2 ho2 s1 s1b sf hbel HS1
  generalize v2.setCell ⟨w.heap.size, 1, none⟩ (.slice sa n sC) = W2 at *
  have hbel : Below W2.heap.size W2 W2 := Below.refl _ _
  cases th with
  | false =>
    have HS4 := HS2
    have HZ4 := HZ2
    have HB4 := HB3
    have HO4 := Lib.hid (show OwnR W2 v1.heap.size 46 12 (.slice sa n sC) L.length (L.flatMap EntV.cells) from by rw [hl]; exact HO2.out)
    clear HS2 HZ2 HO2 HB3
    have z0 := HZ4.out.cell (j := 0) rfl
    have z1 := HZ4.out.cell (j := 1) rfl
    have z2 := HZ4.out.cell (j := 2) rfl
    have z3 := HZ4.out.cell (j := 3) rfl
    have z4 := HZ4.out.cell (j := 4) rfl
    have zf := HZ4.out.frozen
    have s0 := HS4.out.cell (j := 0) rfl
    have s1 := HS4.out.cell (j := 1) rfl
    have s2 := HS4.out.cell (j := 2) rfl
    have s3 := HS4.out.cell (j := 3) rfl
    have s4 := HS4.out.cell (j := 4) rfl
    go_wp2
    refine without_ret _ (w.heap.size + 1) _ r ((.slice sa n sC)) o.a o.b o.c _ rfl (((((HZ4.out.set 0 (.int .i64 r)).set 1 ((.slice sa n sC))).set 2 (.bool o.a)).set 3 (.bool o.b)).set 4 (.bool o.c)) ⟨(.slice sa n sC), rfl, ?_, (belSet (belSet (belSet (belSet (belSet HB4.out ⟨(w.heap.size + 1), 0, none⟩ (.int .i64 r) (show w.heap.size ≤ (w.heap.size + 1) by omega)) ⟨(w.heap.size + 1), 1, none⟩ ((.slice sa n sC)) (show w.heap.size ≤ (w.heap.size + 1) by omega)) ⟨(w.heap.size + 1), 2, none⟩ (.bool o.a) (show w.heap.size ≤ (w.heap.size + 1) by omega)) ⟨(w.heap.size + 1), 3, none⟩ (.bool o.b) (show w.heap.size ≤ (w.heap.size + 1) by omega)) ⟨(w.heap.size + 1), 4, none⟩ (.bool o.c) (show w.heap.size ≤ (w.heap.size + 1) by omega))⟩
    rw [HRES.out]; simp only [Bool.false_eq_true, if_false, if_true]
    exact OwnR.mono (OwnR.setCell (OwnR.setCell (OwnR.setCell (OwnR.setCell (OwnR.setCell HO4.out (a := ⟨(w.heap.size + 1), 0, none⟩) (show (w.heap.size + 1) < v1.heap.size by omega) (.int .i64 r)) (a := ⟨(w.heap.size + 1), 1, none⟩) (show (w.heap.size + 1) < v1.heap.size by omega) ((.slice sa n sC))) (a := ⟨(w.heap.size + 1), 2, none⟩) (show (w.heap.size + 1) < v1.heap.size by omega) (.bool o.a)) (a := ⟨(w.heap.size + 1), 3, none⟩) (show (w.heap.size + 1) < v1.heap.size by omega) (.bool o.b)) (a := ⟨(w.heap.size + 1), 4, none⟩) (show (w.heap.size + 1) < v1.heap.size by omega) (.bool o.c)) (by omega)
  | true =>
    obtain ⟨y, hy, _⟩ := HTH.out rfl
    have hpn : p < n := by have := (List.getElem?_eq_some_iff.1 hy).1; omega
    obtain ⟨m, rfl⟩ : ∃ m, n = m + 1 := ⟨n - 1, by omega⟩
    have CD := Lib.hid (del_allEnt v1.heap.size m p (.slice sa (m + 1) sC) L W2 HO2.out hl (by omega) (by omega) (by omega))
    have hw1 : IntKind.i64.wrap ((p : Int) + 1) = (p : Int) + 1 := by rw [IntKind.wrap_i64]; omega
    have hne : ∀ q, q < v1.heap.size → (Value.slice sa (m + 1) sC).ownBlock ≠ some q := fun q hq e => absurd (World.ownsRow.lt HO2.out _ e).1 (by omega)
    have s1 := HS2.out.cell (j := 1) rfl
    have sf := HS2.out.frozen
    go_upto_region 5 with (go_at_call 46; (with_reducible refine (CD.out).mono ?_); rintro e v3 ⟨tv, rfl, ho3, hb3, hg3, hm3⟩; obtain ⟨ta, tC, rfl, _⟩ := rowR_of_own ho3; have s1b := (HS2.out.grown hg3 (hne _ (by omega))).cell (j := 1) rfl; have sg := (HS2.out.grown hg3 (hne _ (by omega))).frozen)
    have HS4 := Lib.hid ((HS2.out.grown hg3 (hne _ (by omega))).set 1 (.slice ta m tC))
    have HZ4 := Lib.hid ((HZ2.out.grown hg3 (hne (w.heap.size + 1) (by omega))).far (a := ⟨w.heap.size, 1, none⟩) (show w.heap.size ≠ (w.heap.size + 1) by omega) (.slice ta m tC))
    have HO4 := Lib.hid (show OwnR (v3.setCell ⟨w.heap.size, 1, none⟩ (.slice ta m tC)) v1.heap.size 46 12 (.slice ta m tC) (L.take p ++ L.drop (p + 1)).length ((L.take p ++ L.drop (p + 1)).flatMap EntV.cells) from by rw [show (L.take p ++ L.drop (p + 1)).length = m by simp; omega]; exact OwnR.setCell ho3 (a := ⟨w.heap.size, 1, none⟩) (show w.heap.size < v1.heap.size by omega) (.slice ta m tC))
    have HB4 := Lib.hid (belSet (HB3.out.trans (hb3.mono (by omega))) ⟨w.heap.size, 1, none⟩ (.slice ta m tC) (Nat.le_refl _))
    clear s1 s1b sg sf hb3 hg3 ho3 hm3 hbel
    generalize v3.setCell ⟨w.heap.size, 1, none⟩ (.slice ta m tC) = W4 at *
    have hbel : Below W4.heap.size W4 W4 := Below.refl _ _
    have z0 := HZ4.out.cell (j := 0) rfl
    have z1 := HZ4.out.cell (j := 1) rfl
    have z2 := HZ4.out.cell (j := 2) rfl
    have z3 := HZ4.out.cell (j := 3) rfl
    have z4 := HZ4.out.cell (j := 4) rfl
    have zf := HZ4.out.frozen
    have s0 := HS4.out.cell (j := 0) rfl
    have s1 := HS4.out.cell (j := 1) rfl
    have s2 := HS4.out.cell (j := 2) rfl
    have s3 := HS4.out.cell (j := 3) rfl
    have s4 := HS4.out.cell (j := 4) rfl
    go_wp2
    refine without_ret _ (w.heap.size + 1) _ r ((.slice ta m tC)) o.a o.b o.c _ rfl (((((HZ4.out.set 0 (.int .i64 r)).set 1 ((.slice ta m tC))).set 2 (.bool o.a)).set 3 (.bool o.b)).set 4 (.bool o.c)) ⟨(.slice ta m tC), rfl, ?_, (belSet (belSet (belSet (belSet (belSet HB4.out ⟨(w.heap.size + 1), 0, none⟩ (.int .i64 r) (show w.heap.size ≤ (w.heap.size + 1) by omega)) ⟨(w.heap.size + 1), 1, none⟩ ((.slice ta m tC)) (show w.heap.size ≤ (w.heap.size + 1) by omega)) ⟨(w.heap.size + 1), 2, none⟩ (.bool o.a) (show w.heap.size ≤ (w.heap.size + 1) by omega)) ⟨(w.heap.size + 1), 3, none⟩ (.bool o.b) (show w.heap.size ≤ (w.heap.size + 1) by omega)) ⟨(w.heap.size + 1), 4, none⟩ (.bool o.c) (show w.heap.size ≤ (w.heap.size + 1) by omega))⟩
    rw [HRES.out]; simp only [Bool.false_eq_true, if_false, if_true]
    exact OwnR.mono (OwnR.setCell (OwnR.setCell (OwnR.setCell (OwnR.setCell (OwnR.setCell HO4.out (a := ⟨(w.heap.size + 1), 0, none⟩) (show (w.heap.size + 1) < v1.heap.size by omega) (.int .i64 r)) (a := ⟨(w.heap.size + 1), 1, none⟩) (show (w.heap.size + 1) < v1.heap.size by omega) ((.slice ta m tC))) (a := ⟨(w.heap.size + 1), 2, none⟩) (show (w.heap.size + 1) < v1.heap.size by omega) (.bool o.a)) (a := ⟨(w.heap.size + 1), 3, none⟩) (show (w.heap.size + 1) < v1.heap.size by omega) (.bool o.b)) (a := ⟨(w.heap.size + 1), 4, none⟩) (show (w.heap.size + 1) < v1.heap.size by omega) (.bool o.c)) (by omega)
end Go.Proofs.Ytpmkhimmlpnbpaa
