
/- StateGets holds for all its arguments. No conditions. -/
import Derived.Test.YtpmkhimmlpnbpaaStLM
import Derived.Test.YtpmkhimmlpnbpaaPodCutRef
import Derived.Test.YtpmkhimmlpnbpaaLast
namespace Go.Proofs.Ytpmkhimmlpnbpaa.stateGets
open Go.ChangeShapes Go.WideShapes Go.ChangeAt Go.RowKit
open Go.ChangeMaps (open_string shut_string)
set_option linter.unusedVariables false
set_option linter.unusedSimpArgs false
theorem rget_ret (W : World) (R : Nat) (tm : Array Value) (r : Int) (s : Value) (x y z q : Bool) (Q : Ending → World → Prop) (h2 : tm.getD 2 undef = .pointer (some ⟨R, 0, none⟩)) (h3 : tm.getD 3 undef = .bool q) (hb : Blk W R [.int .i64 r, s, .bool x, .bool y, .bool z] 25) (hR : Q (.returned (.tuple #[.agg #[.int .i64 r, s, .bool x, .bool y, .bool z], .bool q])) W) :
    bodyPost Try.prog Try.f19 Q Exit.ret { tmps := tm, defers := [] } W := by
  have z0 := hb.cell (j := 0) rfl
  have z1 := hb.cell (j := 1) rfl
  have z2 := hb.cell (j := 2) rfl
  have z3 := hb.cell (j := 3) rfl
  have z4 := hb.cell (j := 4) rfl
  refine bodyPost_ret (v := .tuple #[.agg #[.int .i64 r, s, .bool x, .bool y, .bool z], .bool q]) ?_ rfl hR
  simp only [Array.getD_eq_getD_getElem?] at h2 h3
  simp [results, Try.results19, go_sem, h2, h3, z0, z1, z2, z3, z4]
def rdN (l : List Int) (k : Nat) : Nat := N8 (l.take k)
theorem rdN_next {l : List Int} {k : Nat} (h : k < l.length) : rdN l (k + 1) = rdN l k * 256 + (el l k).toNat := by
  unfold rdN N8
  rw [List.take_add_one, List.foldl_append, List.getElem?_eq_getElem h]
  simp [el, List.getD, List.getElem?_eq_getElem h]
theorem el_byte {l : List Int} (hb : Bytes l) {k : Nat} (h : k < l.length) : 0 ≤ el l k ∧ el l k ≤ 255 := hb _ (el_mem h)
theorem rdN_le {l : List Int} (hb : Bytes l) (h10 : 10 ≤ l.length) (h0 : el l 0 = 0) (h1 : el l 1 = 0) : ∀ k, k ≤ 8 → rdN l k ≤ 281474976710655 := by
  have s0 : rdN l 0 = 0 := rfl
  have s1 := rdN_next (l := l) (k := 0) (by omega)
  have s2 := rdN_next (l := l) (k := 1) (by omega)
  have s3 := rdN_next (l := l) (k := 2) (by omega)
  have s4 := rdN_next (l := l) (k := 3) (by omega)
  have s5 := rdN_next (l := l) (k := 4) (by omega)
  have s6 := rdN_next (l := l) (k := 5) (by omega)
  have s7 := rdN_next (l := l) (k := 6) (by omega)
  have s8 := rdN_next (l := l) (k := 7) (by omega)
  have b2 := el_byte hb (k := 2) (by omega)
  have b3 := el_byte hb (k := 3) (by omega)
  have b4 := el_byte hb (k := 4) (by omega)
  have b5 := el_byte hb (k := 5) (by omega)
  have b6 := el_byte hb (k := 6) (by omega)
  have b7 := el_byte hb (k := 7) (by omega)
  rw [h0] at s1
  rw [h1] at s2
  intro k hk
  have hc : k = 0 ∨ k = 1 ∨ k = 2 ∨ k = 3 ∨ k = 4 ∨ k = 5 ∨ k = 6 ∨ k = 7 ∨ k = 8 := by omega
  simp only [Nat.zero_add, Nat.reduceAdd] at s1 s2 s3 s4 s5 s6 s7 s8
  rcases hc with rfl | rfl | rfl | rfl | rfl | rfl | rfl | rfl | rfl <;> omega
theorem getok_01 {l : List Int} {r : Int} {o : On} {L : List EntV} (hb : Bytes l) (h : GetOK l r o L) : el l 0 = 0 ∧ el l 1 = 0 := by
  obtain ⟨rn, e1, e2⟩ := get_inv hb h
  obtain ⟨q0, q1, _⟩ := st_nums h.2.2.2.2
  have a0 : el l 0 = ((rn / 72057594037927936 % 256 : Nat) : Int) := by rw [e2]; unfold stBytes; rw [el_app (by rw [W8_len]; omega)]; rfl
  have a1 : el l 1 = ((rn / 281474976710656 % 256 : Nat) : Int) := by rw [e2]; unfold stBytes; rw [el_app (by rw [W8_len]; omega)]; rfl
  clear hb h e2
  omega
theorem getok_8 {l : List Int} {r : Int} {o : On} {L : List EntV} (h : GetOK l r o L) : el l 8 ≤ 7 := by
  have := onI_bd o
  have := h.2.2.1
  omega
theorem getok_9 {l : List Int} {r : Int} {o : On} {L : List EntV} (h : GetOK l r o L) : (el l 9).toNat ≤ 64 := by
  have h1 := entsF_len h.2.2.2.1
  have h2 := (st_nums h.2.2.2.2).2.2
  omega
theorem getok_cut {l : List Int} {L : List EntV} {q : List Int} {k : Nat} (h : entsF (l.drop 10) k = some (L, q)) (hq : entF q = none) (hk : k < (el l 9).toNat) : ∀ r o M, ¬ GetOK l r o M := by
  intro r o M hG
  have h1 : entsF (l.drop 10) (k + 1) = none := by simp only [entsF, h, hq]
  have h2 := entsF_none h1 (show k + 1 ≤ (el l 9).toNat by omega)
  have h3 := hG.2.2.2.1
  rw [h2] at h3
  cases h3
theorem entF_no {l : List Int} {A : Nat} (hA : A < l.length) (h : ¬ ∃ p q, cutF (l.drop (A + 1)) = some (p, q) ∧ rightB p = true) : entF (l.drop A) = none := by
  rw [List.drop_eq_getElem_cons hA]
  unfold entF
  cases hc : cutF (l.drop (A + 1)) with
  | none => simp [hc]
  | some x =>
    obtain ⟨p, q⟩ := x
    cases hr : rightB p with
    | false => simp [hc, hr]
    | true => exact absurd ⟨p, q, hc, hr⟩ h
theorem entF_yes {l : List Int} {A : Nat} (hA : A < l.length) {p : PodV} {q : List Int} (h : cutF (l.drop (A + 1)) = some (p, q)) (hr : rightB p = true) : entF (l.drop A) = some (⟨p, el l A⟩, q) := by
  rw [List.drop_eq_getElem_cons hA]
  simp [entF, h, hr, el, List.getD, List.getElem?_eq_getElem hA]
theorem cut_rest {l q : List Int} {D : Nat} {p : PodV} (hb : Bytes l) (h : cutF (l.drop D) = some (p, q)) : q = l.drop (D + p.bytes.length) ∧ (l.drop D).length = p.bytes.length + q.length := by
  have e := cutF_inv (hb.drop D) h
  refine ⟨?_, by rw [e, List.length_append]⟩
  rw [← List.drop_drop, e, List.drop_left]
def onOf (x : Int) : On := ⟨x % 2 == 1, x / 2 % 2 == 1, x / 4 == 1⟩
theorem onOf_eq {x : Int} (h0 : 0 ≤ x) (h1 : x ≤ 7) : onI (onOf x) = x := by
  have hc : x = 0 ∨ x = 1 ∨ x = 2 ∨ x = 3 ∨ x = 4 ∨ x = 5 ∨ x = 6 ∨ x = 7 := by omega
  rcases hc with rfl | rfl | rfl | rfl | rfl | rfl | rfl | rfl <;> rfl
theorem rres_no9 {l : List Int} (hb : Bytes l) (h : ¬ ∃ p q, cutF l = some (p, q) ∧ rightB p = true) : rres l = (zeroP, 0) := by
  unfold rres
  rw [rcut_eq l hb]
  unfold cutR
  cases hc : cutF l with
  | none => rfl
  | some x =>
    obtain ⟨p, r⟩ := x
    have h2 : ¬ rightB p = true := fun h2 => h ⟨p, r, hc, h2⟩
    rw [Option.bind_some, if_neg h2]
theorem rres_yes9 {l : List Int} (hb : Bytes l) {p : PodV} {r : List Int} (h : cutF l = some (p, r)) (hr : rightB p = true) : rres l = (p, l.length - r.length) := by
  unfold rres
  rw [rcut_eq l hb]
  unfold cutR
  rw [h, Option.bind_some, if_pos hr]
theorem info_entG2 : (Try.prog.info? 46).map (fun i => (i.zero, i.size, i.bytes)) = some (some (.agg #[.string ⟨#[]⟩, .int .i64 0, .bool false, .int .i64 0, .int .i64 0, .int .i64 0, .int .i64 0, .int .i64 0, .int .i64 0, .string ⟨#[]⟩, .int .i64 0, .int .i64 0]), 12, 112) := by kernel_rfl
theorem getok_ok {l : List Int} {r : Int} {o : On} {L : List EntV} (hb : Bytes l) (hl : l.length ≤ 1000000) (h : GetOK l r o L) : ∀ x ∈ L, x.ok := by
  have key : ∀ {k : Nat} {M : List EntV} {q : List Int} (l0 : List Int), Bytes l0 → l0.length ≤ 1000000 → entsF l0 k = some (M, q) → (∀ x ∈ M, x.ok) ∧ Bytes q ∧ q.length ≤ 1000000 := by
    intro k
    induction k with
    | zero => intro M q l0 h1 h2 e; simp [entsF] at e; obtain ⟨rfl, rfl⟩ := e; exact ⟨(fun x hx => by cases hx), h1, h2⟩
    | succ k ih =>
      intro M q l0 h1 h2 e
      unfold entsF at e
      cases hc : entsF l0 k with
      | none => rw [hc] at e; cases e
      | some v =>
        obtain ⟨N, t⟩ := v
        rw [hc] at e
        obtain ⟨i1, i2, i3⟩ := ih l0 h1 h2 hc
        cases t with
        | nil => simp [entF] at e
        | cons ph t =>
          have hbt : Bytes t := fun c hc => i2 c (List.mem_cons_of_mem _ hc)
          have hlt : t.length ≤ 1000000 := by simp at i3; omega
          cases hcc : cutF t with
          | none => simp [entF, hcc] at e
          | some z =>
            obtain ⟨p, y⟩ := z
            cases hr : rightB p with
            | false => simp [entF, hcc, hr] at e
            | true =>
              simp [entF, hcc, hr] at e
              obtain ⟨rfl, rfl⟩ := e
              have hinv := cutF_inv hbt hcc
              refine ⟨?_, fun c hc => hbt c (by rw [hinv]; exact List.mem_append_right _ hc), by have := congrArg List.length hinv; rw [List.length_append] at this; omega⟩
              intro x hx
              rcases List.mem_append.1 hx with hx | hx
              · exact i1 x hx
              · simp only [List.mem_singleton] at hx
                subst hx
                refine ⟨cutF_ok hlt hcc, ?_⟩
                have := i2 ph List.mem_cons_self
                show InI ph
                unfold InI; omega
  exact (key (l.drop 10) (hb.drop 10) (by rw [List.length_drop]; omega) h.2.2.2.1).1
set_option maxRecDepth 100000 in
set_option maxHeartbeats 16000000 in
theorem sref_Get (a : Option Addr) (n c : Nat) (l : List Int) (w : World) (hI : Ints .u8 w a n c l) (hn : n ≤ 9000) :
    Calls Try.prog 19 #[.slice a n c] w fun e w' => ((∃ (r : Int) (o : On) (L : List EntV) (b : Option Addr) (d : Nat), GetOK l r o L ∧ e = .returned (.tuple #[.agg #[.int .i64 r, .slice b L.length d, .bool o.a, .bool o.b, .bool o.c], .bool true]) ∧ Row w' b L.length d 12 (L.flatMap EntV.cells)) ∨ ((∀ r o L, ¬ GetOK l r o L) ∧ e = .returned (.tuple #[.agg #[.int .i64 0, .slice none 0 0, .bool false, .bool false, .bool false], .bool false]))) ∧ Below w.heap.size w w' := by
  have hby := bytes_of hI
  obtain ⟨hll, hb1, hb2⟩ := hI.bounds
  have HI := Lib.hid hI
  have HBY := Lib.hid hby
  have HLL := Lib.hid hll
  clear hI hby hll
  have hw : Below w.heap.size w w := Below.refl _ _
  have hbel := hw
  have hZ0 : Blk (w.alloc (.cells #[.int .i64 0, .slice none 0 0, .bool false, .bool false, .bool false] 25)) w.heap.size [.int .i64 0, .slice none 0 0, .bool false, .bool false, .bool false] 25 := Blk.new w [.int .i64 0, .slice none 0 0, .bool false, .bool false, .bool false] 25
  go_enter Try.func19, Try.ntmps19
  go_upto_region 1 with fail
  have rz0 : (w.alloc (.cells #[.int .i64 0, .slice none 0 0, .bool false, .bool false, .bool false] 25)).cell? ⟨w.heap.size, 0, none⟩ = some (.int .i64 0) := by first | (simp; done) | (rw [World.cell?_alloc_at _ _ _ _ (by simp)]; rfl) | (rw [World.cell?_alloc_past _ _ _ (by simp <;> omega), World.cell?_alloc_at _ _ _ _ (by simp)]; rfl) | (rw [World.cell?_alloc_past _ _ _ (by simp <;> omega), World.cell?_alloc_past _ _ _ (by simp <;> omega), World.cell?_alloc_at _ _ _ _ (by simp)]; rfl)
  have rz1 : (w.alloc (.cells #[.int .i64 0, .slice none 0 0, .bool false, .bool false, .bool false] 25)).cell? ⟨w.heap.size, 1, none⟩ = some (.slice none 0 0) := by first | (simp; done) | (rw [World.cell?_alloc_at _ _ _ _ (by simp)]; rfl) | (rw [World.cell?_alloc_past _ _ _ (by simp <;> omega), World.cell?_alloc_at _ _ _ _ (by simp)]; rfl) | (rw [World.cell?_alloc_past _ _ _ (by simp <;> omega), World.cell?_alloc_past _ _ _ (by simp <;> omega), World.cell?_alloc_at _ _ _ _ (by simp)]; rfl)
  have rz2 : (w.alloc (.cells #[.int .i64 0, .slice none 0 0, .bool false, .bool false, .bool false] 25)).cell? ⟨w.heap.size, 2, none⟩ = some (.bool false) := by first | (simp; done) | (rw [World.cell?_alloc_at _ _ _ _ (by simp)]; rfl) | (rw [World.cell?_alloc_past _ _ _ (by simp <;> omega), World.cell?_alloc_at _ _ _ _ (by simp)]; rfl) | (rw [World.cell?_alloc_past _ _ _ (by simp <;> omega), World.cell?_alloc_past _ _ _ (by simp <;> omega), World.cell?_alloc_at _ _ _ _ (by simp)]; rfl)
  have rz3 : (w.alloc (.cells #[.int .i64 0, .slice none 0 0, .bool false, .bool false, .bool false] 25)).cell? ⟨w.heap.size, 3, none⟩ = some (.bool false) := by first | (simp; done) | (rw [World.cell?_alloc_at _ _ _ _ (by simp)]; rfl) | (rw [World.cell?_alloc_past _ _ _ (by simp <;> omega), World.cell?_alloc_at _ _ _ _ (by simp)]; rfl) | (rw [World.cell?_alloc_past _ _ _ (by simp <;> omega), World.cell?_alloc_past _ _ _ (by simp <;> omega), World.cell?_alloc_at _ _ _ _ (by simp)]; rfl)
  have rz4 : (w.alloc (.cells #[.int .i64 0, .slice none 0 0, .bool false, .bool false, .bool false] 25)).cell? ⟨w.heap.size, 4, none⟩ = some (.bool false) := by first | (simp; done) | (rw [World.cell?_alloc_at _ _ _ _ (by simp)]; rfl) | (rw [World.cell?_alloc_past _ _ _ (by simp <;> omega), World.cell?_alloc_at _ _ _ _ (by simp)]; rfl) | (rw [World.cell?_alloc_past _ _ _ (by simp <;> omega), World.cell?_alloc_past _ _ _ (by simp <;> omega), World.cell?_alloc_at _ _ _ _ (by simp)]; rfl)
  have hb2 := (by repeat (first | exact hbel | refine belAlloc ?_ _ | refine belDrew ?_ | refine belSet ?_ _ _ (by simp)) : Below w.heap.size w (w.alloc (.cells #[.int .i64 0, .slice none 0 0, .bool false, .bool false, .bool false] 25)))
  replace hw := belStep hw hb2
  clear hb2 hbel
  generalize w.alloc (.cells #[.int .i64 0, .slice none 0 0, .bool false, .bool false, .bool false] 25) = W1 at *
  replace rz0 := keep rz0
  replace rz1 := keep rz1
  replace rz2 := keep rz2
  replace rz3 := keep rz3
  replace rz4 := keep rz4
  have hbel : Below W1.heap.size W1 W1 := Below.refl _ _
  skip
  have rzf := Blk.keepF hZ0
  have HZ := Lib.hid hZ0
  have HW1 := Lib.hid hw
  have hz1 : w.heap.size < W1.heap.size := hZ0.lt
  clear hw hZ0
  by_cases h10 : n < 10
  · have HNO := Lib.hid (show ∀ r o M, ¬ GetOK l r o M from fun r o M h => by have := h.1; rw [HLL.out] at this; omega)
    have d1 : decide ((n : Int) < 10) = true := decide_eq_true (by omega)
    have d2 : (n : Int) < 10 := by omega
    go_wp2
    refine rget_ret _ w.heap.size _ 0 (.slice none 0 0) false false false false _ rfl rfl ((((((HZ.out.later hbel).set 0 (.int .i64 0)).set 1 (.slice none 0 0)).set 2 (.bool false)).set 3 (.bool false)).set 4 (.bool false)) ⟨.inr ⟨HNO.out, rfl⟩, (belSet (belSet (belSet (belSet (belSet (belStep HW1.out hbel) ⟨w.heap.size, 0, none⟩ (.int .i64 0) (Nat.le_refl _)) ⟨w.heap.size, 1, none⟩ (.slice none 0 0) (Nat.le_refl _)) ⟨w.heap.size, 2, none⟩ (.bool false) (Nat.le_refl _)) ⟨w.heap.size, 3, none⟩ (.bool false) (Nat.le_refl _)) ⟨w.heap.size, 4, none⟩ (.bool false) (Nat.le_refl _))⟩
  have d1 : decide ((n : Int) < 10) = false := decide_eq_false (by omega)
  have d2 : ¬ (n : Int) < 10 := by omega
  obtain ⟨g, off, rfl, _, hcell⟩ := HI.out.opened (by omega)
  have HCE := Lib.hid (fun k (hk : k < n) => keep (cell_later HW1.out (hcell k hk)))
  have HHB := Lib.hid (fun k (hk : k < n) => el_byte HBY.out (k := k) (by rw [HLL.out]; exact hk))
  clear hcell
  obtain ⟨b0, hb10⟩ : ∃ x, el l 0 = x := ⟨_, rfl⟩
  have x0 := HCE.out 0 (by omega)
  rw [hb10, Nat.add_zero] at x0
  have hB0 := HHB.out 0 (by omega)
  rw [hb10] at hB0
  obtain ⟨hl0, hu0⟩ := hB0
  have E0 := Lib.hid hb10
  clear hb10
  have i0 : 0 < n := by omega
  have j0 : (0 : Int) < (n : Int) := by omega
  obtain ⟨b1, hb11⟩ : ∃ x, el l 1 = x := ⟨_, rfl⟩
  have x1 := HCE.out 1 (by omega)
  rw [hb11] at x1
  have hB1 := HHB.out 1 (by omega)
  rw [hb11] at hB1
  obtain ⟨hl1, hu1⟩ := hB1
  have E1 := Lib.hid hb11
  clear hb11
  have i1 : 1 < n := by omega
  have j1 : (1 : Int) < (n : Int) := by omega
  obtain ⟨b8, hb18⟩ : ∃ x, el l 8 = x := ⟨_, rfl⟩
  have x8 := HCE.out 8 (by omega)
  rw [hb18] at x8
  have hB8 := HHB.out 8 (by omega)
  rw [hb18] at hB8
  obtain ⟨hl8, hu8⟩ := hB8
  have E8 := Lib.hid hb18
  clear hb18
  have i8 : 8 < n := by omega
  have j8 : (8 : Int) < (n : Int) := by omega
  obtain ⟨b9, hb19⟩ : ∃ x, el l 9 = x := ⟨_, rfl⟩
  have x9 := HCE.out 9 (by omega)
  rw [hb19] at x9
  have hB9 := HHB.out 9 (by omega)
  rw [hb19] at hB9
  obtain ⟨hl9, hu9⟩ := hB9
  have E9 := Lib.hid hb19
  clear hb19
  have i9 : 9 < n := by omega
  have j9 : (9 : Int) < (n : Int) := by omega
  by_cases q0 : 0 < b0
  · have HNO := Lib.hid (show ∀ r o M, ¬ GetOK l r o M from fun r o M h => by have h1 := (getok_01 HBY.out h).1; have h2 := E0.out; omega)
    have d10 : decide ((0 : Int) < b0) = true := decide_eq_true q0
    go_wp2
    refine rget_ret _ w.heap.size _ 0 (.slice none 0 0) false false false false _ rfl rfl ((((((HZ.out.later hbel).set 0 (.int .i64 0)).set 1 (.slice none 0 0)).set 2 (.bool false)).set 3 (.bool false)).set 4 (.bool false)) ⟨.inr ⟨HNO.out, rfl⟩, (belSet (belSet (belSet (belSet (belSet (belStep HW1.out hbel) ⟨w.heap.size, 0, none⟩ (.int .i64 0) (Nat.le_refl _)) ⟨w.heap.size, 1, none⟩ (.slice none 0 0) (Nat.le_refl _)) ⟨w.heap.size, 2, none⟩ (.bool false) (Nat.le_refl _)) ⟨w.heap.size, 3, none⟩ (.bool false) (Nat.le_refl _)) ⟨w.heap.size, 4, none⟩ (.bool false) (Nat.le_refl _))⟩
  have d10 : decide ((0 : Int) < b0) = false := decide_eq_false q0
  by_cases q1 : 0 < b1
  · have HNO := Lib.hid (show ∀ r o M, ¬ GetOK l r o M from fun r o M h => by have h1 := (getok_01 HBY.out h).2; have h2 := E1.out; omega)
    have d11 : decide ((0 : Int) < b1) = true := decide_eq_true q1
    go_wp2
    refine rget_ret _ w.heap.size _ 0 (.slice none 0 0) false false false false _ rfl rfl ((((((HZ.out.later hbel).set 0 (.int .i64 0)).set 1 (.slice none 0 0)).set 2 (.bool false)).set 3 (.bool false)).set 4 (.bool false)) ⟨.inr ⟨HNO.out, rfl⟩, (belSet (belSet (belSet (belSet (belSet (belStep HW1.out hbel) ⟨w.heap.size, 0, none⟩ (.int .i64 0) (Nat.le_refl _)) ⟨w.heap.size, 1, none⟩ (.slice none 0 0) (Nat.le_refl _)) ⟨w.heap.size, 2, none⟩ (.bool false) (Nat.le_refl _)) ⟨w.heap.size, 3, none⟩ (.bool false) (Nat.le_refl _)) ⟨w.heap.size, 4, none⟩ (.bool false) (Nat.le_refl _))⟩
  have d11 : decide ((0 : Int) < b1) = false := decide_eq_false q1
  by_cases q8 : 7 < b8
  · have HNO := Lib.hid (show ∀ r o M, ¬ GetOK l r o M from fun r o M h => by have h1 := getok_8 h; have h2 := E8.out; omega)
    have d18 : decide ((7 : Int) < b8) = true := decide_eq_true q8
    go_wp2
    refine rget_ret _ w.heap.size _ 0 (.slice none 0 0) false false false false _ rfl rfl ((((((HZ.out.later hbel).set 0 (.int .i64 0)).set 1 (.slice none 0 0)).set 2 (.bool false)).set 3 (.bool false)).set 4 (.bool false)) ⟨.inr ⟨HNO.out, rfl⟩, (belSet (belSet (belSet (belSet (belSet (belStep HW1.out hbel) ⟨w.heap.size, 0, none⟩ (.int .i64 0) (Nat.le_refl _)) ⟨w.heap.size, 1, none⟩ (.slice none 0 0) (Nat.le_refl _)) ⟨w.heap.size, 2, none⟩ (.bool false) (Nat.le_refl _)) ⟨w.heap.size, 3, none⟩ (.bool false) (Nat.le_refl _)) ⟨w.heap.size, 4, none⟩ (.bool false) (Nat.le_refl _))⟩
  have d18 : decide ((7 : Int) < b8) = false := decide_eq_false q8
  by_cases q9 : 64 < b9
  · have HNO := Lib.hid (show ∀ r o M, ¬ GetOK l r o M from fun r o M h => by have h1 := getok_9 h; have h2 := E9.out; omega)
    have d19 : decide ((64 : Int) < b9) = true := decide_eq_true q9
    go_wp2
    refine rget_ret _ w.heap.size _ 0 (.slice none 0 0) false false false false _ rfl rfl ((((((HZ.out.later hbel).set 0 (.int .i64 0)).set 1 (.slice none 0 0)).set 2 (.bool false)).set 3 (.bool false)).set 4 (.bool false)) ⟨.inr ⟨HNO.out, rfl⟩, (belSet (belSet (belSet (belSet (belSet (belStep HW1.out hbel) ⟨w.heap.size, 0, none⟩ (.int .i64 0) (Nat.le_refl _)) ⟨w.heap.size, 1, none⟩ (.slice none 0 0) (Nat.le_refl _)) ⟨w.heap.size, 2, none⟩ (.bool false) (Nat.le_refl _)) ⟨w.heap.size, 3, none⟩ (.bool false) (Nat.le_refl _)) ⟨w.heap.size, 4, none⟩ (.bool false) (Nat.le_refl _))⟩
  have d19 : decide ((64 : Int) < b9) = false := decide_eq_false q9
  go_upto_region 4 with fail
  have k1 : Below W1.heap.size W1 (W1.alloc (.cells #[.int .i64 0, .slice none 0 0, .bool false, .bool false, .bool false] 25)) := belAlloc (Below.refl _ _) _
  have HT := Lib.hid (show Blk (W1.alloc (.cells #[.int .i64 0, .slice none 0 0, .bool false, .bool false, .bool false] 25)) W1.heap.size [.int .i64 0, .slice none 0 0, .bool false, .bool false, .bool false] 25 from Blk.new W1 [.int .i64 0, .slice none 0 0, .bool false, .bool false, .bool false] 25)
  clear hbel
  generalize W1.alloc (.cells #[.int .i64 0, .slice none 0 0, .bool false, .bool false, .bool false] 25) = W2 at *
  have hbel := k1
  clear k1
  have HLE := Lib.hid (rdN_le HBY.out (by rw [HLL.out]; omega) (by have := E0.out; omega) (by have := E1.out; omega))
  go_wp2
  go_loopw [5] (fun i wr => ∃ k : Nat, k ≤ 8 ∧ i = .int .i64 k ∧ Hid (Blk wr W1.heap.size [.int .i64 ((rdN l k : Nat) : Int), .slice none 0 0, .bool false, .bool false, .bool false] 25) ∧ Below W1.heap.size W1 wr) (fun i _ => 8 - (intOf i).toNat)
  case atStart => exact ⟨0, Nat.zero_le _, rfl, HT, hbel⟩
  case round =>
    clear hbel HT
    obtain ⟨k, hk, rfl, HTk, hbel⟩ := hrel
    by_cases hlt : k < 8
    · have hd : decide ((k : Int) < 8) = true := decide_eq_true (by omega)
      have hkn : (k : Int) < (n : Int) := by omega
      have hk0 : (0 : Int) ≤ (k : Int) := by omega
      have xk := HCE.out k (by omega)
      have hBk := HHB.out k (by omega)
      have HN := Lib.hid (show ((rdN l (k + 1) : Nat) : Int) = 256 * ((rdN l k : Nat) : Int) + el l k by rw [rdN_next (by rw [HLL.out]; omega)]; omega)
      have hmle := HLE.out k hk
      have hmle2 := HLE.out (k + 1) (by omega)
      have hmn := HN.out
      obtain ⟨bk, hbk⟩ : ∃ x, el l k = x := ⟨_, rfl⟩
      rw [hbk] at xk hBk HN hmn
      obtain ⟨m, hm⟩ : ∃ m : Int, ((rdN l k : Nat) : Int) = m := ⟨_, rfl⟩
      rw [hm] at HTk HN hmn
      have hm0 : 0 ≤ m := by omega
      have hm1 : m ≤ 281474976710655 := by omega
      clear hbk hm hmle hmle2 hmn
      obtain ⟨hbk0, hbk1⟩ := hBk
      have hv1 : IntKind.i64.wrap (256 * m) = 256 * m := IntWalk.i64_in _ (by omega)
      have hv2 : IntKind.i64.wrap (256 * m + bk) = 256 * m + bk := IntWalk.i64_in _ (by omega)
      have hv3 : IntKind.i64.wrap bk = bk := IntWalk.i64_in _ (by omega)
      go_wp2
      refine wp_region_upto (S := (fun u => Below W1.heap.size W1 u ∧ Blk u W1.heap.size [.int .i64 m, .slice none 0 0, .bool false, .bool false, .bool false] 25)) [10] (by kernel_rfl) (by exact ⟨belDrew hbel, HTk.out.later (belDrew (Below.refl _ _))⟩) (fun hHeld => ?_)
      refine UpTo.take (i := 0) (oi := ?oi_u1) (v := ?v_u1) ?hi_u1 (by kernel_rfl) ?hf_u1 ?hr_u1 (by kernel_rfl) ?hQ_u1 (Or.inl ⟨?hw_u1, ?hy_u1⟩) (by assumption) ?rest_u1
      case hi_u1 => ((simp only [List.getElem?_toArray, List.getElem?_cons_succ, List.getElem?_cons_zero]); rfl)
      case hf_u1 => kernel_rfl
      case hr_u1 => kernel_rfl
      case hQ_u1 => exact fun _ _ _ h => h
      case hw_u1 => rfl
      case hy_u1 => ((intro w hSw; (try dsimp only at hSw); obtain ⟨hSa, hSb⟩ := hSw; go_simp); all_goals (with_reducible rfl))
      try simp only [Act.put, List.setIfInBounds_toArray, List.set_cons_zero, List.set_cons_succ]
      refine UpTo.take (i := 3) (oi := ?oi_u2) (v := ?v_u2) ?hi_u2 (by kernel_rfl) ?hf_u2 ?hr_u2 (by kernel_rfl) ?hQ_u2 (Or.inl ⟨?hw_u2, ?hy_u2⟩) (by assumption) ?rest_u2
      case hi_u2 => ((simp only [List.getElem?_toArray, List.getElem?_cons_succ, List.getElem?_cons_zero]); rfl)
      case hf_u2 => kernel_rfl
      case hr_u2 => kernel_rfl
      case hQ_u2 => exact fun _ _ _ h => h
      case hw_u2 => rfl
      case hy_u2 => ((intro w hSw; (try dsimp only at hSw); obtain ⟨hSa, hSb⟩ := hSw; go_simp); all_goals (with_reducible rfl))
      try simp only [Act.put, List.setIfInBounds_toArray, List.set_cons_zero, List.set_cons_succ]
      refine UpTo.take (i := 4) (oi := ?oi_u3) (v := ?v_u3) ?hi_u3 (by kernel_rfl) ?hf_u3 ?hr_u3 (by kernel_rfl) ?hQ_u3 (Or.inl ⟨?hw_u3, ?hy_u3⟩) (by assumption) ?rest_u3
      case hi_u3 => ((simp only [List.getElem?_toArray, List.getElem?_cons_succ, List.getElem?_cons_zero]); rfl)
      case hf_u3 => kernel_rfl
      case hr_u3 => kernel_rfl
      case hQ_u3 => exact fun _ _ _ h => h
      case hw_u3 => rfl
      case hy_u3 => ((intro w hSw; (try dsimp only at hSw); obtain ⟨hSa, hSb⟩ := hSw; go_simp); all_goals (with_reducible rfl))
      try simp only [Act.put, List.setIfInBounds_toArray, List.set_cons_zero, List.set_cons_succ]
      refine UpTo.take (i := 5) (oi := ?oi_u4) (v := ?v_u4) ?hi_u4 (by kernel_rfl) ?hf_u4 ?hr_u4 (by kernel_rfl) ?hQ_u4 (Or.inl ⟨?hw_u4, ?hy_u4⟩) (by assumption) ?rest_u4
      case hi_u4 => ((simp only [List.getElem?_toArray, List.getElem?_cons_succ, List.getElem?_cons_zero]); rfl)
      case hf_u4 => kernel_rfl
      case hr_u4 => kernel_rfl
      case hQ_u4 => exact fun _ _ _ h => h
      case hw_u4 => rfl
      case hy_u4 => ((intro w hSw; (try dsimp only at hSw); obtain ⟨hSa, hSb⟩ := hSw; go_simp); all_goals (with_reducible rfl))
      try simp only [Act.put, List.setIfInBounds_toArray, List.set_cons_zero, List.set_cons_succ]
      refine UpTo.take (i := 6) (oi := ?oi_u5) (v := ?v_u5) ?hi_u5 (by kernel_rfl) ?hf_u5 ?hr_u5 (by kernel_rfl) ?hQ_u5 (Or.inl ⟨?hw_u5, ?hy_u5⟩) (by assumption) ?rest_u5
      case hi_u5 => ((simp only [List.getElem?_toArray, List.getElem?_cons_succ, List.getElem?_cons_zero]); rfl)
      case hf_u5 => kernel_rfl
      case hr_u5 => kernel_rfl
      case hQ_u5 => exact fun _ _ _ h => h
      case hw_u5 => rfl
      case hy_u5 => ((intro w hSw; (try dsimp only at hSw); obtain ⟨hSa, hSb⟩ := hSw; go_simp); all_goals (with_reducible rfl))
      try simp only [Act.put, List.setIfInBounds_toArray, List.set_cons_zero, List.set_cons_succ]
      refine UpTo.take (i := 7) (oi := ?oi_u6) (v := ?v_u6) ?hi_u6 (by kernel_rfl) ?hf_u6 ?hr_u6 (by kernel_rfl) ?hQ_u6 (Or.inl ⟨?hw_u6, ?hy_u6⟩) (by assumption) ?rest_u6
      case hi_u6 => ((simp only [List.getElem?_toArray, List.getElem?_cons_succ, List.getElem?_cons_zero]); rfl)
      case hf_u6 => kernel_rfl
      case hr_u6 => kernel_rfl
      case hQ_u6 => exact fun _ _ _ h => h
      case hw_u6 => rfl
      case hy_u6 => ((intro w hSw; (try dsimp only at hSw); obtain ⟨hSa, hSb⟩ := hSw; go_simp); all_goals (with_reducible rfl))
      try simp only [Act.put, List.setIfInBounds_toArray, List.set_cons_zero, List.set_cons_succ]
      refine UpTo.take (i := 1) (oi := ?oi_u7) (v := ?v_u7) ?hi_u7 (by kernel_rfl) ?hf_u7 ?hr_u7 (by kernel_rfl) ?hQ_u7 (Or.inl ⟨?hw_u7, ?hy_u7⟩) (by assumption) ?rest_u7
      case hi_u7 => ((simp only [List.getElem?_toArray, List.getElem?_cons_succ, List.getElem?_cons_zero]); rfl)
      case hf_u7 => kernel_rfl
      case hr_u7 => kernel_rfl
      case hQ_u7 => exact fun _ _ _ h => h
      case hw_u7 => rfl
      case hy_u7 => ((intro w hSw; (try dsimp only at hSw); obtain ⟨hSa, hSb⟩ := hSw; have c0 := hSb.cell (j := 0) rfl; go_simp); all_goals (with_reducible rfl))
      try simp only [Act.put, List.setIfInBounds_toArray, List.set_cons_zero, List.set_cons_succ]
      refine UpTo.take (i := 2) (oi := ?oi_u8) (v := ?v_u8) ?hi_u8 (by kernel_rfl) ?hf_u8 ?hr_u8 (by kernel_rfl) ?hQ_u8 (Or.inl ⟨?hw_u8, ?hy_u8⟩) (by assumption) ?rest_u8
      case hi_u8 => ((simp only [List.getElem?_toArray, List.getElem?_cons_succ, List.getElem?_cons_zero]); rfl)
      case hf_u8 => kernel_rfl
      case hr_u8 => kernel_rfl
      case hQ_u8 => exact fun _ _ _ h => h
      case hw_u8 => rfl
      case hy_u8 => ((intro w hSw; (try dsimp only at hSw); obtain ⟨hSa, hSb⟩ := hSw; go_simp); all_goals (with_reducible rfl))
      try simp only [Act.put, List.setIfInBounds_toArray, List.set_cons_zero, List.set_cons_succ]
      refine UpTo.take (i := 8) (oi := ?oi_u9) (v := ?v_u9) ?hi_u9 (by kernel_rfl) ?hf_u9 ?hr_u9 (by kernel_rfl) ?hQ_u9 (Or.inl ⟨?hw_u9, ?hy_u9⟩) (by assumption) ?rest_u9
      case hi_u9 => ((simp only [List.getElem?_toArray, List.getElem?_cons_succ, List.getElem?_cons_zero]); rfl)
      case hf_u9 => kernel_rfl
      case hr_u9 => kernel_rfl
      case hQ_u9 => exact fun _ _ _ h => h
      case hw_u9 => rfl
      case hy_u9 => ((intro w hSw; (try dsimp only at hSw); obtain ⟨hSa, hSb⟩ := hSw; go_simp); all_goals (with_reducible rfl))
      try simp only [Act.put, List.setIfInBounds_toArray, List.set_cons_zero, List.set_cons_succ]
      refine UpTo.take (i := 9) (oi := ?oi_u10) (v := ?v_u10) ?hi_u10 (by kernel_rfl) ?hf_u10 ?hr_u10 (by kernel_rfl) ?hQ_u10 (Or.inl ⟨?hw_u10, ?hy_u10⟩) (by assumption) ?rest_u10
      case hi_u10 => ((simp only [List.getElem?_toArray, List.getElem?_cons_succ, List.getElem?_cons_zero]); rfl)
      case hf_u10 => kernel_rfl
      case hr_u10 => kernel_rfl
      case hQ_u10 => exact fun _ _ _ h => h
      case hw_u10 => rfl
      case hy_u10 => ((intro w hSw; (try dsimp only at hSw); obtain ⟨hSa, hSb⟩ := hSw; go_simp); all_goals (with_reducible rfl))
      try simp only [Act.put, List.setIfInBounds_toArray, List.set_cons_zero, List.set_cons_succ]
      have hbd := hHeld.1
      have HTd := Lib.hid hHeld.2
      clear hHeld HTk hbel
      generalize wr.drew = wd at *
      have c0 := HTd.out.cell (j := 0) rfl
      have cf := HTd.out.frozen
      refine UpTo.one (i := 10) (o := ?o_u11) (by kernel_rfl) ?hi_u11 (fun K hK => ?rest_u11)
      case hi_u11 => ((simp only [List.getElem?_toArray, List.getElem?_cons_succ, List.getElem?_cons_zero]); rfl)
      go_simp
      refine hK.out _ _ (fun q => absurd q (by decide)) (fun _ => ?_)
      clear hK K
      try simp only [Act.put, List.setIfInBounds_toArray, List.set_cons_zero, List.set_cons_succ]
      refine UpTo.done (by kernel_rfl) ?_ _
      have HT2 := Lib.hid (HTd.out.set 0 (.int .i64 (256 * m + bk)))
      have hb2 := belSet hbd ⟨W1.heap.size, 0, none⟩ (.int .i64 (256 * m + bk)) (Nat.le_refl _)
      clear c0 cf HTd hbd
      generalize wd.setCell ⟨W1.heap.size, 0, none⟩ (.int .i64 (256 * m + bk)) = w7 at *
      go_wp2
      go_roundw
      case rel => exact ⟨k + 1, by omega, by push_cast; rfl, by rw [HN.out]; exact HT2, hb2⟩
      case measure => simp [intOf] <;> omega
    · obtain rfl : k = 8 := by omega
      have hd : decide ((8 : Int) < 8) = false := rfl
      have hm1 := HLE.out 8 (Nat.le_refl _)
      obtain ⟨R, hR⟩ : ∃ R : Int, ((rdN l 8 : Nat) : Int) = R := ⟨_, rfl⟩
      rw [hR] at HTk
      have HRV := Lib.hid hR
      have hR0 : 0 ≤ R := by omega
      have hR1 : R ≤ 281474976710655 := by omega
      clear hR hm1 hlt hk HLE
      have hv1 : IntKind.u8.wrap (b8 % 2) = b8 % 2 := IntWalk.u8_in _ (by omega)
      have hv2 : IntKind.u8.wrap (b8 / 2) = b8 / 2 := IntWalk.u8_in _ (by omega)
      have hv3 : IntKind.u8.wrap (b8 / 2 % 2) = b8 / 2 % 2 := IntWalk.u8_in _ (by omega)
      have hv4 : IntKind.u8.wrap (b8 / 4) = b8 / 4 := IntWalk.u8_in _ (by omega)
      have ht1 : Int.tmod b8 2 = b8 % 2 := Int.tmod_eq_emod_of_nonneg hl8
      have ht2 : Int.tdiv b8 2 = b8 / 2 := Int.tdiv_eq_ediv_of_nonneg hl8
      have ht3 : Int.tmod (b8 / 2) 2 = b8 / 2 % 2 := Int.tmod_eq_emod_of_nonneg (by omega)
      have ht4 : Int.tdiv b8 4 = b8 / 4 := Int.tdiv_eq_ediv_of_nonneg hl8
      go_wp2
      refine wp_region_upto (S := (fun u => Below W1.heap.size W1 u ∧ Blk u W1.heap.size [.int .i64 R, .slice none 0 0, .bool false, .bool false, .bool false] 25)) [18] (by kernel_rfl) (by exact ⟨belDrew hbel, HTk.out.later (belDrew (Below.refl _ _))⟩) (fun hHeld => ?_)
      refine UpTo.take (i := 0) (oi := ?oi_u12) (v := ?v_u12) ?hi_u12 (by kernel_rfl) ?hf_u12 ?hr_u12 (by kernel_rfl) ?hQ_u12 (Or.inl ⟨?hw_u12, ?hy_u12⟩) (by assumption) ?rest_u12
      case hi_u12 => ((simp only [List.getElem?_toArray, List.getElem?_cons_succ, List.getElem?_cons_zero]); rfl)
      case hf_u12 => kernel_rfl
      case hr_u12 => kernel_rfl
      case hQ_u12 => exact fun _ _ _ h => h
      case hw_u12 => rfl
      case hy_u12 => ((intro w hSw; (try dsimp only at hSw); obtain ⟨hSa, hSb⟩ := hSw; go_simp); all_goals (with_reducible rfl))
      try simp only [Act.put, List.setIfInBounds_toArray, List.set_cons_zero, List.set_cons_succ]
      refine UpTo.take (i := 1) (oi := ?oi_u13) (v := ?v_u13) ?hi_u13 (by kernel_rfl) ?hf_u13 ?hr_u13 (by kernel_rfl) ?hQ_u13 (Or.inl ⟨?hw_u13, ?hy_u13⟩) (by assumption) ?rest_u13
      case hi_u13 => ((simp only [List.getElem?_toArray, List.getElem?_cons_succ, List.getElem?_cons_zero]); rfl)
      case hf_u13 => kernel_rfl
      case hr_u13 => kernel_rfl
      case hQ_u13 => exact fun _ _ _ h => h
      case hw_u13 => rfl
      case hy_u13 => ((intro w hSw; (try dsimp only at hSw); obtain ⟨hSa, hSb⟩ := hSw; go_simp); all_goals (with_reducible rfl))
      try simp only [Act.put, List.setIfInBounds_toArray, List.set_cons_zero, List.set_cons_succ]
      refine UpTo.take (i := 2) (oi := ?oi_u14) (v := ?v_u14) ?hi_u14 (by kernel_rfl) ?hf_u14 ?hr_u14 (by kernel_rfl) ?hQ_u14 (Or.inl ⟨?hw_u14, ?hy_u14⟩) (by assumption) ?rest_u14
      case hi_u14 => ((simp only [List.getElem?_toArray, List.getElem?_cons_succ, List.getElem?_cons_zero]); rfl)
      case hf_u14 => kernel_rfl
      case hr_u14 => kernel_rfl
      case hQ_u14 => exact fun _ _ _ h => h
      case hw_u14 => rfl
      case hy_u14 => ((intro w hSw; (try dsimp only at hSw); obtain ⟨hSa, hSb⟩ := hSw; go_simp); all_goals (with_reducible rfl))
      try simp only [Act.put, List.setIfInBounds_toArray, List.set_cons_zero, List.set_cons_succ]
      refine UpTo.take (i := 3) (oi := ?oi_u15) (v := ?v_u15) ?hi_u15 (by kernel_rfl) ?hf_u15 ?hr_u15 (by kernel_rfl) ?hQ_u15 (Or.inl ⟨?hw_u15, ?hy_u15⟩) (by assumption) ?rest_u15
      case hi_u15 => ((simp only [List.getElem?_toArray, List.getElem?_cons_succ, List.getElem?_cons_zero]); rfl)
      case hf_u15 => kernel_rfl
      case hr_u15 => kernel_rfl
      case hQ_u15 => exact fun _ _ _ h => h
      case hw_u15 => rfl
      case hy_u15 => ((intro w hSw; (try dsimp only at hSw); obtain ⟨hSa, hSb⟩ := hSw; go_simp); all_goals (with_reducible rfl))
      try simp only [Act.put, List.setIfInBounds_toArray, List.set_cons_zero, List.set_cons_succ]
      refine UpTo.take (i := 4) (oi := ?oi_u16) (v := ?v_u16) ?hi_u16 (by kernel_rfl) ?hf_u16 ?hr_u16 (by kernel_rfl) ?hQ_u16 (Or.inl ⟨?hw_u16, ?hy_u16⟩) (by assumption) ?rest_u16
      case hi_u16 => ((simp only [List.getElem?_toArray, List.getElem?_cons_succ, List.getElem?_cons_zero]); rfl)
      case hf_u16 => kernel_rfl
      case hr_u16 => kernel_rfl
      case hQ_u16 => exact fun _ _ _ h => h
      case hw_u16 => rfl
      case hy_u16 => ((intro w hSw; (try dsimp only at hSw); obtain ⟨hSa, hSb⟩ := hSw; go_simp); all_goals (with_reducible rfl))
      try simp only [Act.put, List.setIfInBounds_toArray, List.set_cons_zero, List.set_cons_succ]
      refine UpTo.take (i := 5) (oi := ?oi_u17) (v := ?v_u17) ?hi_u17 (by kernel_rfl) ?hf_u17 ?hr_u17 (by kernel_rfl) ?hQ_u17 (Or.inl ⟨?hw_u17, ?hy_u17⟩) (by assumption) ?rest_u17
      case hi_u17 => ((simp only [List.getElem?_toArray, List.getElem?_cons_succ, List.getElem?_cons_zero]); rfl)
      case hf_u17 => kernel_rfl
      case hr_u17 => kernel_rfl
      case hQ_u17 => exact fun _ _ _ h => h
      case hw_u17 => rfl
      case hy_u17 => ((intro w hSw; (try dsimp only at hSw); obtain ⟨hSa, hSb⟩ := hSw; go_simp); all_goals (with_reducible rfl))
      try simp only [Act.put, List.setIfInBounds_toArray, List.set_cons_zero, List.set_cons_succ]
      refine UpTo.take (i := 6) (oi := ?oi_u18) (v := ?v_u18) ?hi_u18 (by kernel_rfl) ?hf_u18 ?hr_u18 (by kernel_rfl) ?hQ_u18 (Or.inl ⟨?hw_u18, ?hy_u18⟩) (by assumption) ?rest_u18
      case hi_u18 => ((simp only [List.getElem?_toArray, List.getElem?_cons_succ, List.getElem?_cons_zero]); rfl)
      case hf_u18 => kernel_rfl
      case hr_u18 => kernel_rfl
      case hQ_u18 => exact fun _ _ _ h => h
      case hw_u18 => rfl
      case hy_u18 => ((intro w hSw; (try dsimp only at hSw); obtain ⟨hSa, hSb⟩ := hSw; go_simp); all_goals (with_reducible rfl))
      try simp only [Act.put, List.setIfInBounds_toArray, List.set_cons_zero, List.set_cons_succ]
      refine UpTo.take (i := 7) (oi := ?oi_u19) (v := ?v_u19) ?hi_u19 (by kernel_rfl) ?hf_u19 ?hr_u19 (by kernel_rfl) ?hQ_u19 (Or.inl ⟨?hw_u19, ?hy_u19⟩) (by assumption) ?rest_u19
      case hi_u19 => ((simp only [List.getElem?_toArray, List.getElem?_cons_succ, List.getElem?_cons_zero]); rfl)
      case hf_u19 => kernel_rfl
      case hr_u19 => kernel_rfl
      case hQ_u19 => exact fun _ _ _ h => h
      case hw_u19 => rfl
      case hy_u19 => ((intro w hSw; (try dsimp only at hSw); obtain ⟨hSa, hSb⟩ := hSw; go_simp); all_goals (with_reducible rfl))
      try simp only [Act.put, List.setIfInBounds_toArray, List.set_cons_zero, List.set_cons_succ]
      refine UpTo.take (i := 8) (oi := ?oi_u20) (v := ?v_u20) ?hi_u20 (by kernel_rfl) ?hf_u20 ?hr_u20 (by kernel_rfl) ?hQ_u20 (Or.inl ⟨?hw_u20, ?hy_u20⟩) (by assumption) ?rest_u20
      case hi_u20 => ((simp only [List.getElem?_toArray, List.getElem?_cons_succ, List.getElem?_cons_zero]); rfl)
      case hf_u20 => kernel_rfl
      case hr_u20 => kernel_rfl
      case hQ_u20 => exact fun _ _ _ h => h
      case hw_u20 => rfl
      case hy_u20 => ((intro w hSw; (try dsimp only at hSw); obtain ⟨hSa, hSb⟩ := hSw; go_simp); all_goals (with_reducible rfl))
      try simp only [Act.put, List.setIfInBounds_toArray, List.set_cons_zero, List.set_cons_succ]
      refine UpTo.take (i := 9) (oi := ?oi_u21) (v := ?v_u21) ?hi_u21 (by kernel_rfl) ?hf_u21 ?hr_u21 (by kernel_rfl) ?hQ_u21 (Or.inl ⟨?hw_u21, ?hy_u21⟩) (by assumption) ?rest_u21
      case hi_u21 => ((simp only [List.getElem?_toArray, List.getElem?_cons_succ, List.getElem?_cons_zero]); rfl)
      case hf_u21 => kernel_rfl
      case hr_u21 => kernel_rfl
      case hQ_u21 => exact fun _ _ _ h => h
      case hw_u21 => rfl
      case hy_u21 => ((intro w hSw; (try dsimp only at hSw); obtain ⟨hSa, hSb⟩ := hSw; go_simp); all_goals (with_reducible rfl))
      try simp only [Act.put, List.setIfInBounds_toArray, List.set_cons_zero, List.set_cons_succ]
      refine UpTo.take (i := 10) (oi := ?oi_u22) (v := ?v_u22) ?hi_u22 (by kernel_rfl) ?hf_u22 ?hr_u22 (by kernel_rfl) ?hQ_u22 (Or.inl ⟨?hw_u22, ?hy_u22⟩) (by assumption) ?rest_u22
      case hi_u22 => ((simp only [List.getElem?_toArray, List.getElem?_cons_succ, List.getElem?_cons_zero]); rfl)
      case hf_u22 => kernel_rfl
      case hr_u22 => kernel_rfl
      case hQ_u22 => exact fun _ _ _ h => h
      case hw_u22 => rfl
      case hy_u22 => ((intro w hSw; (try dsimp only at hSw); obtain ⟨hSa, hSb⟩ := hSw; go_simp); all_goals (with_reducible rfl))
      try simp only [Act.put, List.setIfInBounds_toArray, List.set_cons_zero, List.set_cons_succ]
      refine UpTo.take (i := 11) (oi := ?oi_u23) (v := ?v_u23) ?hi_u23 (by kernel_rfl) ?hf_u23 ?hr_u23 (by kernel_rfl) ?hQ_u23 (Or.inl ⟨?hw_u23, ?hy_u23⟩) (by assumption) ?rest_u23
      case hi_u23 => ((simp only [List.getElem?_toArray, List.getElem?_cons_succ, List.getElem?_cons_zero]); rfl)
      case hf_u23 => kernel_rfl
      case hr_u23 => kernel_rfl
      case hQ_u23 => exact fun _ _ _ h => h
      case hw_u23 => rfl
      case hy_u23 => ((intro w hSw; (try dsimp only at hSw); obtain ⟨hSa, hSb⟩ := hSw; go_simp); all_goals (with_reducible rfl))
      try simp only [Act.put, List.setIfInBounds_toArray, List.set_cons_zero, List.set_cons_succ]
      refine UpTo.take (i := 12) (oi := ?oi_u24) (v := ?v_u24) ?hi_u24 (by kernel_rfl) ?hf_u24 ?hr_u24 (by kernel_rfl) ?hQ_u24 (Or.inl ⟨?hw_u24, ?hy_u24⟩) (by assumption) ?rest_u24
      case hi_u24 => ((simp only [List.getElem?_toArray, List.getElem?_cons_succ, List.getElem?_cons_zero]); rfl)
      case hf_u24 => kernel_rfl
      case hr_u24 => kernel_rfl
      case hQ_u24 => exact fun _ _ _ h => h
      case hw_u24 => rfl
      case hy_u24 => ((intro w hSw; (try dsimp only at hSw); obtain ⟨hSa, hSb⟩ := hSw; go_simp); all_goals (with_reducible rfl))
      try simp only [Act.put, List.setIfInBounds_toArray, List.set_cons_zero, List.set_cons_succ]
      refine UpTo.take (i := 13) (oi := ?oi_u25) (v := ?v_u25) ?hi_u25 (by kernel_rfl) ?hf_u25 ?hr_u25 (by kernel_rfl) ?hQ_u25 (Or.inl ⟨?hw_u25, ?hy_u25⟩) (by assumption) ?rest_u25
      case hi_u25 => ((simp only [List.getElem?_toArray, List.getElem?_cons_succ, List.getElem?_cons_zero]); rfl)
      case hf_u25 => kernel_rfl
      case hr_u25 => kernel_rfl
      case hQ_u25 => exact fun _ _ _ h => h
      case hw_u25 => rfl
      case hy_u25 => ((intro w hSw; (try dsimp only at hSw); obtain ⟨hSa, hSb⟩ := hSw; go_simp); all_goals (with_reducible rfl))
      try simp only [Act.put, List.setIfInBounds_toArray, List.set_cons_zero, List.set_cons_succ]
      refine UpTo.take (i := 14) (oi := ?oi_u26) (v := ?v_u26) ?hi_u26 (by kernel_rfl) ?hf_u26 ?hr_u26 (by kernel_rfl) ?hQ_u26 (Or.inl ⟨?hw_u26, ?hy_u26⟩) (by assumption) ?rest_u26
      case hi_u26 => ((simp only [List.getElem?_toArray, List.getElem?_cons_succ, List.getElem?_cons_zero]); rfl)
      case hf_u26 => kernel_rfl
      case hr_u26 => kernel_rfl
      case hQ_u26 => exact fun _ _ _ h => h
      case hw_u26 => rfl
      case hy_u26 => ((intro w hSw; (try dsimp only at hSw); obtain ⟨hSa, hSb⟩ := hSw; go_simp); all_goals (with_reducible rfl))
      try simp only [Act.put, List.setIfInBounds_toArray, List.set_cons_zero, List.set_cons_succ]
      refine UpTo.take (i := 15) (oi := ?oi_u27) (v := ?v_u27) ?hi_u27 (by kernel_rfl) ?hf_u27 ?hr_u27 (by kernel_rfl) ?hQ_u27 (Or.inl ⟨?hw_u27, ?hy_u27⟩) (by assumption) ?rest_u27
      case hi_u27 => ((simp only [List.getElem?_toArray, List.getElem?_cons_succ, List.getElem?_cons_zero]); rfl)
      case hf_u27 => kernel_rfl
      case hr_u27 => kernel_rfl
      case hQ_u27 => exact fun _ _ _ h => h
      case hw_u27 => rfl
      case hy_u27 => ((intro w hSw; (try dsimp only at hSw); obtain ⟨hSa, hSb⟩ := hSw; go_simp); all_goals (with_reducible rfl))
      try simp only [Act.put, List.setIfInBounds_toArray, List.set_cons_zero, List.set_cons_succ]
      refine UpTo.take (i := 16) (oi := ?oi_u28) (v := ?v_u28) ?hi_u28 (by kernel_rfl) ?hf_u28 ?hr_u28 (by kernel_rfl) ?hQ_u28 (Or.inl ⟨?hw_u28, ?hy_u28⟩) (by assumption) ?rest_u28
      case hi_u28 => ((simp only [List.getElem?_toArray, List.getElem?_cons_succ, List.getElem?_cons_zero]); rfl)
      case hf_u28 => kernel_rfl
      case hr_u28 => kernel_rfl
      case hQ_u28 => exact fun _ _ _ h => h
      case hw_u28 => rfl
      case hy_u28 => ((intro w hSw; (try dsimp only at hSw); obtain ⟨hSa, hSb⟩ := hSw; go_simp); all_goals (with_reducible rfl))
      try simp only [Act.put, List.setIfInBounds_toArray, List.set_cons_zero, List.set_cons_succ]
      refine UpTo.take (i := 17) (oi := ?oi_u29) (v := ?v_u29) ?hi_u29 (by kernel_rfl) ?hf_u29 ?hr_u29 (by kernel_rfl) ?hQ_u29 (Or.inl ⟨?hw_u29, ?hy_u29⟩) (by assumption) ?rest_u29
      case hi_u29 => ((simp only [List.getElem?_toArray, List.getElem?_cons_succ, List.getElem?_cons_zero]); rfl)
      case hf_u29 => kernel_rfl
      case hr_u29 => kernel_rfl
      case hQ_u29 => exact fun _ _ _ h => h
      case hw_u29 => rfl
      case hy_u29 => ((intro w hSw; (try dsimp only at hSw); obtain ⟨hSa, hSb⟩ := hSw; go_simp); all_goals (with_reducible rfl))
      try simp only [Act.put, List.setIfInBounds_toArray, List.set_cons_zero, List.set_cons_succ]
      have hbd := hHeld.1
      have HTd := Lib.hid hHeld.2
      clear hHeld HTk hbel ht1 ht2 ht3 ht4 hv1 hv2 hv3 hv4
      generalize wr.drew = wd at *
      have c2 := HTd.out.cell (j := 2) rfl
      have c3 := HTd.out.cell (j := 3) rfl
      have c4 := HTd.out.cell (j := 4) rfl
      have cf := HTd.out.frozen
      refine UpTo.one (i := 18) (o := ?o_u30) (by kernel_rfl) ?hi_u30 (fun K hK => ?rest_u30)
      case hi_u30 => ((simp only [List.getElem?_toArray, List.getElem?_cons_succ, List.getElem?_cons_zero]); rfl)
      go_simp
      refine hK.out _ _ (fun q => absurd q (by decide)) (fun _ => ?_)
      clear hK K
      try simp only [Act.put, List.setIfInBounds_toArray, List.set_cons_zero, List.set_cons_succ]
      refine UpTo.done (by kernel_rfl) ?_ _
      have HT5 := Lib.hid (show Blk (((wd.setCell ⟨W1.heap.size, 2, none⟩ (.bool (b8 % 2 == 1))).setCell ⟨W1.heap.size, 3, none⟩ (.bool (b8 / 2 % 2 == 1))).setCell ⟨W1.heap.size, 4, none⟩ (.bool (b8 / 4 == 1))) W1.heap.size [.int .i64 R, .slice none 0 0, .bool (b8 % 2 == 1), .bool (b8 / 2 % 2 == 1), .bool (b8 / 4 == 1)] 25 from (((HTd.out.set 2 (.bool (b8 % 2 == 1))).set 3 (.bool (b8 / 2 % 2 == 1))).set 4 (.bool (b8 / 4 == 1))))
      have hb5 := (belSet (belSet (belSet hbd ⟨W1.heap.size, 2, none⟩ (.bool (b8 % 2 == 1)) (Nat.le_refl _)) ⟨W1.heap.size, 3, none⟩ (.bool (b8 / 2 % 2 == 1)) (Nat.le_refl _)) ⟨W1.heap.size, 4, none⟩ (.bool (b8 / 4 == 1)) (Nat.le_refl _))
      have HON := Lib.hid (show onI ⟨(b8 % 2 == 1), (b8 / 2 % 2 == 1), (b8 / 4 == 1)⟩ = b8 from onOf_eq hl8 (by omega))
      clear c2 c3 c4 cf HTd hbd
      obtain ⟨oa, hoa⟩ : ∃ x, (b8 % 2 == 1) = x := ⟨_, rfl⟩
      obtain ⟨ob, hob⟩ : ∃ x, (b8 / 2 % 2 == 1) = x := ⟨_, rfl⟩
      obtain ⟨oc, hoc⟩ : ∃ x, (b8 / 4 == 1) = x := ⟨_, rfl⟩
      simp only [hoa, hob, hoc] at HT5 HON hb5 ⊢
      clear hoa hob hoc
      generalize ((wd.setCell ⟨W1.heap.size, 2, none⟩ (.bool oa)).setCell ⟨W1.heap.size, 3, none⟩ (.bool ob)).setCell ⟨W1.heap.size, 4, none⟩ (.bool oc) = W5 at *
      have hz5 : W1.heap.size < W5.heap.size := HT5.out.lt
      obtain ⟨c9, hc9⟩ : ∃ c9 : Nat, b9 = (c9 : Int) := ⟨b9.toNat, by omega⟩
      subst hc9
      have hc64 : c9 ≤ 64 := by omega
      have HC9 := Lib.hid (show (el l 9).toNat = c9 by have := E9.out; omega)
      go_wp2
      go_loopw [6, 7] (fun av iv wr => ∃ (k A : Nat) (L : List EntV) (sa : Option Addr) (sC : Nat), k ≤ c9 ∧ av = .int .i64 A ∧ iv = .int .i64 k ∧ 10 ≤ A ∧ A ≤ n ∧ Hid (L.length = k) ∧ Hid (entsF (l.drop 10) k = some (L, l.drop A)) ∧ Hid (∀ x ∈ L, x.ok) ∧ Hid (Blk wr W1.heap.size [.int .i64 R, .slice sa k sC, .bool oa, .bool ob, .bool oc] 25) ∧ Hid (OwnR wr W5.heap.size 46 12 (.slice sa k sC) k (L.flatMap EntV.cells)) ∧ Below W1.heap.size W1 wr ∧ W5.heap.size ≤ wr.heap.size) (fun _ i _ => c9 - (intOf i).toNat)
      case atStart => exact ⟨0, 10, [], none, 0, Nat.zero_le _, rfl, rfl, Nat.le_refl _, by omega, Lib.hid rfl, Lib.hid rfl, Lib.hid (fun x hx => by cases hx), HT5, Lib.hid (OwnR.nil _ _ _ _), hb5, Nat.le_refl _⟩
      case round =>
        clear hb5 HT5
        obtain ⟨k, A, L, sa, sC, hk, rfl, rfl, hA10, hAn, HLK, HEF, HOK, HT, HO, hbel, hsz⟩ := hrel
        by_cases hlt : k < c9
        · have hd : decide ((k : Int) < (c9 : Int)) = true := decide_eq_true (by omega)
          have hv9 : IntKind.i64.wrap (c9 : Int) = (c9 : Int) := IntWalk.i64_in _ (by omega)
          by_cases hAe : n ≤ A
          · have HNO := Lib.hid (getok_cut HEF.out (by rw [List.drop_of_length_le (by rw [HLL.out]; exact hAe)]; rfl) (by rw [HC9.out]; exact hlt))
            have hd2 : decide ((n : Int) ≤ (A : Int)) = true := decide_eq_true (by omega)
            go_wp2
            refine rget_ret _ w.heap.size _ 0 (.slice none 0 0) false false false false _ rfl rfl ((((((HZ.out.later hbel).set 0 (.int .i64 0)).set 1 (.slice none 0 0)).set 2 (.bool false)).set 3 (.bool false)).set 4 (.bool false)) ⟨.inr ⟨HNO.out, rfl⟩, (belSet (belSet (belSet (belSet (belSet (belStep HW1.out hbel) ⟨w.heap.size, 0, none⟩ (.int .i64 0) (Nat.le_refl _)) ⟨w.heap.size, 1, none⟩ (.slice none 0 0) (Nat.le_refl _)) ⟨w.heap.size, 2, none⟩ (.bool false) (Nat.le_refl _)) ⟨w.heap.size, 3, none⟩ (.bool false) (Nat.le_refl _)) ⟨w.heap.size, 4, none⟩ (.bool false) (Nat.le_refl _))⟩
          have hd2 : decide ((n : Int) ≤ (A : Int)) = false := decide_eq_false (by omega)
          have hAi : ¬ (n : Int) ≤ (A : Int) := by omega
          have hAn2 : A < l.length := by rw [HLL.out]; omega
          obtain ⟨D, hD⟩ : ∃ D, A + 1 = D := ⟨_, rfl⟩
          have hDi : (A : Int) + 1 = (D : Int) := by omega
          have hD2 : IntKind.i64.wrap (D : Int) = (D : Int) := IntWalk.i64_in _ (by omega)
          have hDn : D ≤ n := by omega
          have hDc : (D : Int) ≤ (c : Int) := by omega
          have hDnI : (D : Int) ≤ (n : Int) := by omega
          have hD0 : (0 : Int) ≤ (D : Int) := by omega
          have HINS := Lib.hid (fun u (hu : Below W1.heap.size W1 u) => (HI.out.later (belStep HW1.out hu)).drop (n := D) hDn)
          by_cases hcd : c = D
          · have hcD : c = D := by omega
            have hcD2 : (c : Int) = (D : Int) := by omega
            have HIN := Lib.hid (fun u (hu : Below W1.heap.size W1 u) => show Ints .u8 u (some ⟨g, off, none⟩) (n - D) 0 (l.drop D) from by have h := HINS.out u hu; rw [show n - D = 0 by omega, show c - D = 0 by omega] at h; rw [show n - D = 0 by omega]; exact ⟨⟨h.1.1, h.1.2.1, h.1.2.2.1, (fun e => by cases e), .inl (by have h2 := h.1.1; simp at h2 ⊢; omega)⟩, h.2⟩)
            by_cases hgd : ∃ p q, cutF (l.drop D) = some (p, q) ∧ rightB p = true
            rotate_left
            · have HNO := Lib.hid (getok_cut HEF.out (entF_no hAn2 (by rw [hD]; exact hgd)) (by rw [HC9.out]; exact hlt))
              have CC := Lib.hid (fun u (hu : Below W1.heap.size W1 u) => show Calls Try.prog 41 #[.slice (some ⟨g, off, none⟩) (n - D) 0] u fun e w' => e = .returned (.tuple #[.agg #[.string ⟨#[]⟩, .int .i64 0, .bool false, .int .i64 0, .int .i64 0, .int .i64 0, .int .i64 0, .int .i64 0, .int .i64 0, .string ⟨#[]⟩, .int .i64 0], .int .i64 0]) ∧ Below u.heap.size u w' from by have h := pref_Cut _ _ _ _ u (HIN.out u hu) (by omega); rw [rres_no9 (HBY.out.drop D) hgd] at h; exact h)
              clear hD HEF HINS HIN
              go_wp2_with (go_at_call 41; go_loud (with_reducible refine (CC.out _ hbel).mono ?_); rintro e w6 ⟨rfl, hb6⟩; have hbz := belStep hbel hb6; clear hbel; have hbel := hbz; clear hbz hb6)
              refine rget_ret _ w.heap.size _ 0 (.slice none 0 0) false false false false _ rfl rfl ((((((HZ.out.later (belAlloc hbel _)).set 0 (.int .i64 0)).set 1 (.slice none 0 0)).set 2 (.bool false)).set 3 (.bool false)).set 4 (.bool false)) ⟨.inr ⟨HNO.out, rfl⟩, (belSet (belSet (belSet (belSet (belSet (belStep HW1.out (belAlloc hbel _)) ⟨w.heap.size, 0, none⟩ (.int .i64 0) (Nat.le_refl _)) ⟨w.heap.size, 1, none⟩ (.slice none 0 0) (Nat.le_refl _)) ⟨w.heap.size, 2, none⟩ (.bool false) (Nat.le_refl _)) ⟨w.heap.size, 3, none⟩ (.bool false) (Nat.le_refl _)) ⟨w.heap.size, 4, none⟩ (.bool false) (Nat.le_refl _))⟩
            · obtain ⟨p, t, hcut, hrp⟩ := hgd
              obtain ⟨hq1, hq2⟩ := cut_rest HBY.out hcut
              have hpbl := PodV.bytes_len p
              have HEN := Lib.hid (entF_yes hAn2 (by rw [hD]; exact hcut) hrp)
              have hpo : p.ok := cutF_ok (by rw [List.length_drop, HLL.out]; omega) hcut
              obtain ⟨M, hM⟩ : ∃ M, p.bytes.length = M := ⟨_, rfl⟩
              rw [hM] at hq1 hq2 hpbl
              have hM0 : 0 < M := by omega
              rw [List.length_drop, HLL.out] at hq2
              have hMn : D + M ≤ n := by omega
              exact absurd hMn (by omega)
          · have hcD : ¬ c = D := by omega
            have hcD2 : ¬ (c : Int) = (D : Int) := by omega
            have HIN := HINS
            by_cases hgd : ∃ p q, cutF (l.drop D) = some (p, q) ∧ rightB p = true
            rotate_left
            · have HNO := Lib.hid (getok_cut HEF.out (entF_no hAn2 (by rw [hD]; exact hgd)) (by rw [HC9.out]; exact hlt))
              have CC := Lib.hid (fun u (hu : Below W1.heap.size W1 u) => show Calls Try.prog 41 #[.slice (some ⟨g, off + D, none⟩) (n - D) (c - D)] u fun e w' => e = .returned (.tuple #[.agg #[.string ⟨#[]⟩, .int .i64 0, .bool false, .int .i64 0, .int .i64 0, .int .i64 0, .int .i64 0, .int .i64 0, .int .i64 0, .string ⟨#[]⟩, .int .i64 0], .int .i64 0]) ∧ Below u.heap.size u w' from by have h := pref_Cut _ _ _ _ u (HIN.out u hu) (by omega); rw [rres_no9 (HBY.out.drop D) hgd] at h; exact h)
              clear hD HEF HINS HIN
              go_wp2_with (go_at_call 41; go_loud (with_reducible refine (CC.out _ hbel).mono ?_); rintro e w6 ⟨rfl, hb6⟩; have hbz := belStep hbel hb6; clear hbel; have hbel := hbz; clear hbz hb6)
              refine rget_ret _ w.heap.size _ 0 (.slice none 0 0) false false false false _ rfl rfl ((((((HZ.out.later (belAlloc hbel _)).set 0 (.int .i64 0)).set 1 (.slice none 0 0)).set 2 (.bool false)).set 3 (.bool false)).set 4 (.bool false)) ⟨.inr ⟨HNO.out, rfl⟩, (belSet (belSet (belSet (belSet (belSet (belStep HW1.out (belAlloc hbel _)) ⟨w.heap.size, 0, none⟩ (.int .i64 0) (Nat.le_refl _)) ⟨w.heap.size, 1, none⟩ (.slice none 0 0) (Nat.le_refl _)) ⟨w.heap.size, 2, none⟩ (.bool false) (Nat.le_refl _)) ⟨w.heap.size, 3, none⟩ (.bool false) (Nat.le_refl _)) ⟨w.heap.size, 4, none⟩ (.bool false) (Nat.le_refl _))⟩
            · obtain ⟨p, t, hcut, hrp⟩ := hgd
              obtain ⟨hq1, hq2⟩ := cut_rest HBY.out hcut
              have hpbl := PodV.bytes_len p
              have HEN := Lib.hid (entF_yes hAn2 (by rw [hD]; exact hcut) hrp)
              have hpo : p.ok := cutF_ok (by rw [List.length_drop, HLL.out]; omega) hcut
              obtain ⟨M, hM⟩ : ∃ M, p.bytes.length = M := ⟨_, rfl⟩
              rw [hM] at hq1 hq2 hpbl
              have hM0 : 0 < M := by omega
              rw [List.length_drop, HLL.out] at hq2
              have hMn : D + M ≤ n := by omega
              have CC := Lib.hid (fun u (hu : Below W1.heap.size W1 u) => show Calls Try.prog 41 #[.slice (some ⟨g, off + D, none⟩) (n - D) (c - D)] u fun e w' => e = .returned (.tuple #[.agg #[.string p.id, .int .i64 p.prio, .bool p.crit, .int .i64 p.r0, .int .i64 p.r1, .int .i64 p.r2, .int .i64 p.l0, .int .i64 p.l1, .int .i64 p.l2, .string p.img, .int .i64 p.size], .int .i64 (M : Int)]) ∧ Below u.heap.size u w' from by have h := pref_Cut _ _ _ _ u (HIN.out u hu) (by omega); rw [rres_yes9 (HBY.out.drop D) hcut hrp] at h; rw [show (l.drop D).length - t.length = M by rw [List.length_drop, HLL.out]; omega] at h; exact h)
              obtain ⟨bA, hbA⟩ : ∃ x, el l A = x := ⟨_, rfl⟩
              have hBA := HHB.out A (by omega)
              have xA := HCE.out A (by omega)
              rw [hbA] at HEN hBA xA
              obtain ⟨hA0, hA1⟩ := hBA
              have HST := Lib.hid (show entsF (l.drop 10) (k + 1) = some (L ++ [⟨p, bA⟩], l.drop (D + M)) by simp only [entsF, HEF.out, HEN.out, hq1])
              have HPO := Lib.hid (show EntV.ok ⟨p, bA⟩ from ⟨hpo, by show InI bA; unfold InI; omega⟩)
              clear hD HEF HINS HIN hq1 hq2 hpbl hcut hrp hpo hbA HEN
              have hm0 : ((M : Int) == 0) = false := by rw [beq_eq_false_iff_ne]; omega
              have hm1 : ¬ (M : Int) = 0 := by omega
              go_upto_region 18 with (go_at_call 41; go_loud (with_reducible refine (CC.out _ hbel).mono ?_); rintro e w6 ⟨rfl, hb6⟩; have hbz := belStep hbel hb6; have HT6 := Lib.hid (HT.out.later hb6); have HO6 := Lib.hid (HO.out.later hb6); have hs6 := hb6.size; clear hbel hb6; have hbel := hbz; clear hbz)
              clear CC
              have HNQ := Lib.hid (fun q (e : (Value.slice sa k sC).ownBlock = some q) => show q ≠ w6.heap.size from fun h => by have := (World.ownsRow.lt HO6.out q e).2; omega)
              have k2 : Below w6.heap.size w6 (w6.alloc (.cells #[.string p.id, .int .i64 p.prio, .bool p.crit, .int .i64 p.r0, .int .i64 p.r1, .int .i64 p.r2, .int .i64 p.l0, .int .i64 p.l1, .int .i64 p.l2, .string p.img, .int .i64 p.size] 44)) := belAlloc (Below.refl _ _) _
              have HP := Lib.hid (show Blk (w6.alloc (.cells #[.string p.id, .int .i64 p.prio, .bool p.crit, .int .i64 p.r0, .int .i64 p.r1, .int .i64 p.r2, .int .i64 p.l0, .int .i64 p.l1, .int .i64 p.l2, .string p.img, .int .i64 p.size] 44)) w6.heap.size [.string p.id, .int .i64 p.prio, .bool p.crit, .int .i64 p.r0, .int .i64 p.r1, .int .i64 p.r2, .int .i64 p.l0, .int .i64 p.l1, .int .i64 p.l2, .string p.img, .int .i64 p.size] 44 from Blk.new w6 [.string p.id, .int .i64 p.prio, .bool p.crit, .int .i64 p.r0, .int .i64 p.r1, .int .i64 p.r2, .int .i64 p.l0, .int .i64 p.l1, .int .i64 p.l2, .string p.img, .int .i64 p.size] 44)
              replace HT6 := Lib.hid (HT6.out.later k2)
              replace HO6 := Lib.hid (HO6.out.later k2)
              have hbz := belStep hbel k2
              have hs7 := k2.size
              clear hbel HT HO
              have hbel := hbz
              clear k2 hbz
              generalize w6.alloc (.cells #[.string p.id, .int .i64 p.prio, .bool p.crit, .int .i64 p.r0, .int .i64 p.r1, .int .i64 p.r2, .int .i64 p.l0, .int .i64 p.l1, .int .i64 p.l2, .string p.img, .int .i64 p.size] 44) = W6 at *
              have hpp : w6.heap.size < W6.heap.size := HP.out.lt
              have HNP := Lib.hid (fun q (e : (Value.slice sa k sC).ownBlock = some q) => show q ≠ w6.heap.size from HNQ.out q e)
              have hvA : IntKind.i64.wrap bA = bA := IntWalk.i64_in _ (by omega)
              have hAnn : (A : Int) < (n : Int) := by omega
              have hA00 : (0 : Int) ≤ (A : Int) := by omega
              refine wp_region_upto (S := (fun u => Below W1.heap.size W1 u ∧ Blk u W1.heap.size [.int .i64 R, .slice sa k sC, .bool oa, .bool ob, .bool oc] 25 ∧ Blk u w6.heap.size [.string p.id, .int .i64 p.prio, .bool p.crit, .int .i64 p.r0, .int .i64 p.r1, .int .i64 p.r2, .int .i64 p.l0, .int .i64 p.l1, .int .i64 p.l2, .string p.img, .int .i64 p.size] 44)) [12] (by kernel_rfl) (by exact ⟨belDrew hbel, HT6.out.later (belDrew (Below.refl _ _)), HP.out.later (belDrew (Below.refl _ _))⟩) (fun hHeld => ?_)
              refine UpTo.take (i := 0) (oi := ?oi_u44) (v := ?v_u44) ?hi_u44 (by kernel_rfl) ?hf_u44 ?hr_u44 (by kernel_rfl) ?hQ_u44 (Or.inl ⟨?hw_u44, ?hy_u44⟩) (by assumption) ?rest_u44
              case hi_u44 => ((simp only [List.getElem?_toArray, List.getElem?_cons_succ, List.getElem?_cons_zero]); rfl)
              case hf_u44 => kernel_rfl
              case hr_u44 => kernel_rfl
              case hQ_u44 => exact fun _ _ _ h => h
              case hw_u44 => rfl
              case hy_u44 => ((intro w hSw; (try dsimp only at hSw); obtain ⟨hSa, hSb, hSc⟩ := hSw; go_simp); all_goals (with_reducible rfl))
              try simp only [Act.put, List.setIfInBounds_toArray, List.set_cons_zero, List.set_cons_succ]
              refine UpTo.take (i := 1) (oi := ?oi_u45) (v := ?v_u45) ?hi_u45 (by kernel_rfl) ?hf_u45 ?hr_u45 (by kernel_rfl) ?hQ_u45 (Or.inl ⟨?hw_u45, ?hy_u45⟩) (by assumption) ?rest_u45
              case hi_u45 => ((simp only [List.getElem?_toArray, List.getElem?_cons_succ, List.getElem?_cons_zero]); rfl)
              case hf_u45 => kernel_rfl
              case hr_u45 => kernel_rfl
              case hQ_u45 => exact fun _ _ _ h => h
              case hw_u45 => rfl
              case hy_u45 => ((intro w hSw; (try dsimp only at hSw); obtain ⟨hSa, hSb, hSc⟩ := hSw; have c1 := hSb.cell (j := 1) rfl; go_simp); all_goals (with_reducible rfl))
              try simp only [Act.put, List.setIfInBounds_toArray, List.set_cons_zero, List.set_cons_succ]
              refine UpTo.take (i := 2) (oi := ?oi_u46) (v := ?v_u46) ?hi_u46 (by kernel_rfl) ?hf_u46 ?hr_u46 (by kernel_rfl) ?hQ_u46 (Or.inl ⟨?hw_u46, ?hy_u46⟩) (by assumption) ?rest_u46
              case hi_u46 => ((simp only [List.getElem?_toArray, List.getElem?_cons_succ, List.getElem?_cons_zero]); rfl)
              case hf_u46 => kernel_rfl
              case hr_u46 => kernel_rfl
              case hQ_u46 => exact fun _ _ _ h => h
              case hw_u46 => rfl
              case hy_u46 => ((intro w hSw; (try dsimp only at hSw); obtain ⟨hSa, hSb, hSc⟩ := hSw; have p0 := hSc.cell (j := 0) rfl; have p1 := hSc.cell (j := 1) rfl; have p2 := hSc.cell (j := 2) rfl; have p3 := hSc.cell (j := 3) rfl; have p4 := hSc.cell (j := 4) rfl; have p5 := hSc.cell (j := 5) rfl; have p6 := hSc.cell (j := 6) rfl; have p7 := hSc.cell (j := 7) rfl; have p8 := hSc.cell (j := 8) rfl; have p9 := hSc.cell (j := 9) rfl; have p10 := hSc.cell (j := 10) rfl; go_simp); all_goals (with_reducible rfl))
              try simp only [Act.put, List.setIfInBounds_toArray, List.set_cons_zero, List.set_cons_succ]
              refine UpTo.take (i := 3) (oi := ?oi_u47) (v := ?v_u47) ?hi_u47 (by kernel_rfl) ?hf_u47 ?hr_u47 (by kernel_rfl) ?hQ_u47 (Or.inl ⟨?hw_u47, ?hy_u47⟩) (by assumption) ?rest_u47
              case hi_u47 => ((simp only [List.getElem?_toArray, List.getElem?_cons_succ, List.getElem?_cons_zero]); rfl)
              case hf_u47 => kernel_rfl
              case hr_u47 => kernel_rfl
              case hQ_u47 => exact fun _ _ _ h => h
              case hw_u47 => rfl
              case hy_u47 => ((intro w hSw; (try dsimp only at hSw); obtain ⟨hSa, hSb, hSc⟩ := hSw; go_simp); all_goals (with_reducible rfl))
              try simp only [Act.put, List.setIfInBounds_toArray, List.set_cons_zero, List.set_cons_succ]
              refine UpTo.take (i := 4) (oi := ?oi_u48) (v := ?v_u48) ?hi_u48 (by kernel_rfl) ?hf_u48 ?hr_u48 (by kernel_rfl) ?hQ_u48 (Or.inl ⟨?hw_u48, ?hy_u48⟩) (by assumption) ?rest_u48
              case hi_u48 => ((simp only [List.getElem?_toArray, List.getElem?_cons_succ, List.getElem?_cons_zero]); rfl)
              case hf_u48 => kernel_rfl
              case hr_u48 => kernel_rfl
              case hQ_u48 => exact fun _ _ _ h => h
              case hw_u48 => rfl
              case hy_u48 => ((intro w hSw; (try dsimp only at hSw); obtain ⟨hSa, hSb, hSc⟩ := hSw; go_simp); all_goals (with_reducible rfl))
              try simp only [Act.put, List.setIfInBounds_toArray, List.set_cons_zero, List.set_cons_succ]
              refine UpTo.take (i := 5) (oi := ?oi_u49) (v := ?v_u49) ?hi_u49 (by kernel_rfl) ?hf_u49 ?hr_u49 (by kernel_rfl) ?hQ_u49 (Or.inl ⟨?hw_u49, ?hy_u49⟩) (by assumption) ?rest_u49
              case hi_u49 => ((simp only [List.getElem?_toArray, List.getElem?_cons_succ, List.getElem?_cons_zero]); rfl)
              case hf_u49 => kernel_rfl
              case hr_u49 => kernel_rfl
              case hQ_u49 => exact fun _ _ _ h => h
              case hw_u49 => rfl
              case hy_u49 => ((intro w hSw; (try dsimp only at hSw); obtain ⟨hSa, hSb, hSc⟩ := hSw; go_simp); all_goals (with_reducible rfl))
              try simp only [Act.put, List.setIfInBounds_toArray, List.set_cons_zero, List.set_cons_succ]
              refine UpTo.take (i := 6) (oi := ?oi_u50) (v := ?v_u50) ?hi_u50 (by kernel_rfl) ?hf_u50 ?hr_u50 (by kernel_rfl) ?hQ_u50 (Or.inl ⟨?hw_u50, ?hy_u50⟩) (by assumption) ?rest_u50
              case hi_u50 => ((simp only [List.getElem?_toArray, List.getElem?_cons_succ, List.getElem?_cons_zero]); rfl)
              case hf_u50 => kernel_rfl
              case hr_u50 => kernel_rfl
              case hQ_u50 => exact fun _ _ _ h => h
              case hw_u50 => rfl
              case hy_u50 => ((intro w hSw; (try dsimp only at hSw); obtain ⟨hSa, hSb, hSc⟩ := hSw; go_simp); all_goals (with_reducible rfl))
              try simp only [Act.put, List.setIfInBounds_toArray, List.set_cons_zero, List.set_cons_succ]
              refine UpTo.take (i := 7) (oi := ?oi_u51) (v := ?v_u51) ?hi_u51 (by kernel_rfl) ?hf_u51 ?hr_u51 (by kernel_rfl) ?hQ_u51 (Or.inl ⟨?hw_u51, ?hy_u51⟩) (by assumption) ?rest_u51
              case hi_u51 => ((simp only [List.getElem?_toArray, List.getElem?_cons_succ, List.getElem?_cons_zero]); rfl)
              case hf_u51 => kernel_rfl
              case hr_u51 => kernel_rfl
              case hQ_u51 => exact fun _ _ _ h => h
              case hw_u51 => rfl
              case hy_u51 => ((intro w hSw; (try dsimp only at hSw); obtain ⟨hSa, hSb, hSc⟩ := hSw; go_simp); all_goals (with_reducible rfl))
              try simp only [Act.put, List.setIfInBounds_toArray, List.set_cons_zero, List.set_cons_succ]
              refine UpTo.take (i := 8) (oi := ?oi_u52) (v := ?v_u52) ?hi_u52 (by kernel_rfl) ?hf_u52 ?hr_u52 (by kernel_rfl) ?hQ_u52 (Or.inl ⟨?hw_u52, ?hy_u52⟩) (by assumption) ?rest_u52
              case hi_u52 => ((simp only [List.getElem?_toArray, List.getElem?_cons_succ, List.getElem?_cons_zero]); rfl)
              case hf_u52 => kernel_rfl
              case hr_u52 => kernel_rfl
              case hQ_u52 => exact fun _ _ _ h => h
              case hw_u52 => rfl
              case hy_u52 => ((intro w hSw; (try dsimp only at hSw); obtain ⟨hSa, hSb, hSc⟩ := hSw; go_simp); all_goals (with_reducible rfl))
              try simp only [Act.put, List.setIfInBounds_toArray, List.set_cons_zero, List.set_cons_succ]
              have HO7 := Lib.hid (HO6.out.later (belDrew (Below.refl _ _)))
              have hs8 : W6.heap.size ≤ W6.drew.heap.size := (belDrew (Below.refl W6.heap.size W6)).size
              clear HT6 HO6 hbel
              generalize W6.drew = wd at *
              refine UpTo.one (i := 9) (o := ?o_u53) (by kernel_rfl) ?hi_u53 (fun K hK => ?rest_u53)
              case hi_u53 => ((simp only [List.getElem?_toArray, List.getElem?_cons_succ, List.getElem?_cons_zero]); rfl)
              go_simp
              have HRX := Lib.hid (row_new wd (EntV.cells ⟨p, bA⟩) 46 1 12 rfl (by unfold maxLen; omega))
              have k3 : Below wd.heap.size wd (wd.alloc (.cells #[.string p.id, .int .i64 p.prio, .bool p.crit, .int .i64 p.r0, .int .i64 p.r1, .int .i64 p.r2, .int .i64 p.l0, .int .i64 p.l1, .int .i64 p.l2, .string p.img, .int .i64 p.size, .int .i64 bA] 46)) := belAlloc (Below.refl _ _) _
              have hH3 : Below W1.heap.size W1 (wd.alloc (.cells #[.string p.id, .int .i64 p.prio, .bool p.crit, .int .i64 p.r0, .int .i64 p.r1, .int .i64 p.r2, .int .i64 p.l0, .int .i64 p.l1, .int .i64 p.l2, .string p.img, .int .i64 p.size, .int .i64 bA] 46)) ∧ Blk (wd.alloc (.cells #[.string p.id, .int .i64 p.prio, .bool p.crit, .int .i64 p.r0, .int .i64 p.r1, .int .i64 p.r2, .int .i64 p.l0, .int .i64 p.l1, .int .i64 p.l2, .string p.img, .int .i64 p.size, .int .i64 bA] 46)) W1.heap.size [.int .i64 R, .slice sa k sC, .bool oa, .bool ob, .bool oc] 25 ∧ Blk (wd.alloc (.cells #[.string p.id, .int .i64 p.prio, .bool p.crit, .int .i64 p.r0, .int .i64 p.r1, .int .i64 p.r2, .int .i64 p.l0, .int .i64 p.l1, .int .i64 p.l2, .string p.img, .int .i64 p.size, .int .i64 bA] 46)) w6.heap.size [.string p.id, .int .i64 p.prio, .bool p.crit, .int .i64 p.r0, .int .i64 p.r1, .int .i64 p.r2, .int .i64 p.l0, .int .i64 p.l1, .int .i64 p.l2, .string p.img, .int .i64 p.size] 44 := ⟨belStep hHeld.1 k3, hHeld.2.1.later k3, hHeld.2.2.later k3⟩
              replace HO7 := Lib.hid (HO7.out.later k3)
              have hs9 := k3.size
              replace HRX := Lib.hid (show Row (wd.alloc (.cells #[.string p.id, .int .i64 p.prio, .bool p.crit, .int .i64 p.r0, .int .i64 p.r1, .int .i64 p.r2, .int .i64 p.l0, .int .i64 p.l1, .int .i64 p.l2, .string p.img, .int .i64 p.size, .int .i64 bA] 46)) (some ⟨wd.heap.size, 0, none⟩) 1 1 12 (EntV.cells ⟨p, bA⟩) from HRX.out)
              clear hHeld k3
              generalize wd.alloc (.cells #[.string p.id, .int .i64 p.prio, .bool p.crit, .int .i64 p.r0, .int .i64 p.r1, .int .i64 p.r2, .int .i64 p.l0, .int .i64 p.l1, .int .i64 p.l2, .string p.img, .int .i64 p.size, .int .i64 bA] 46) = wa at *
              refine hK.out _ _ (fun _ => by exact hH3) (fun hHeld0 => ?_)
              replace hHeld := hHeld0 (by decide)
              clear hK K hHeld0
              try simp only [Act.put, List.setIfInBounds_toArray, List.set_cons_zero, List.set_cons_succ]
              clear hH3
              have hnT : (Value.slice sa k sC).ownBlock ≠ some W1.heap.size := fun e => by have := (World.ownsRow.lt HO7.out _ e).1; omega
              have hnP : ∀ q, (Value.slice sa k sC).ownBlock = some q → q ≠ w6.heap.size := HNP.out
              refine UpTo.one (i := 10) (o := ?o_u54) (by kernel_rfl) ?hi_u54 (fun K hK => ?rest_u54)
              case hi_u54 => ((simp only [List.getElem?_toArray, List.getElem?_cons_succ, List.getElem?_cons_zero]); rfl)
              refine op_appS rfl _ _ 22 rfl W5.heap.size 46 _ 12 112 Try.underlying22 info_entG2 rfl (by decide) _ k _ (by rfl) HO7.out _ 1 1 (EntV.cells ⟨p, bA⟩) (by rfl) HRX.out (ent_oneG _) (by unfold maxLen; omega) (by omega) (by omega) ?_
              intro v9 w9 ho9 hb9 hg9 hm9
              have hH4 : Below W1.heap.size W1 w9 ∧ Blk w9 W1.heap.size [.int .i64 R, .slice sa k sC, .bool oa, .bool ob, .bool oc] 25 ∧ Blk w9 w6.heap.size [.string p.id, .int .i64 p.prio, .bool p.crit, .int .i64 p.r0, .int .i64 p.r1, .int .i64 p.r2, .int .i64 p.l0, .int .i64 p.l1, .int .i64 p.l2, .string p.img, .int .i64 p.size] 44 := ⟨hHeld.1.trans (hb9.mono (by omega)), hHeld.2.1.grown hg9 hnT, hHeld.2.2.grown hg9 (fun e => hnP _ e rfl)⟩
              have HO9 := Lib.hid ho9
              have hs10 := hb9.size
              clear hHeld ho9 hb9 hg9 hm9 HRX HO7
              refine hK.out _ _ (fun _ => by exact hH4) (fun hHeld0 => ?_)
              replace hHeld := hHeld0 (by decide)
              clear hK K hHeld0
              try simp only [Act.put, List.setIfInBounds_toArray, List.set_cons_zero, List.set_cons_succ]
              clear hH4
              obtain ⟨sa2, sC2, e2, _⟩ := rowR_of_own HO9.out
              subst e2
              refine UpTo.take (i := 11) (oi := ?oi_u55) (v := ?v_u55) ?hi_u55 (by kernel_rfl) ?hf_u55 ?hr_u55 (by kernel_rfl) ?hQ_u55 (Or.inl ⟨?hw_u55, ?hy_u55⟩) (by assumption) ?rest_u55
              case hi_u55 => ((simp only [List.getElem?_toArray, List.getElem?_cons_succ, List.getElem?_cons_zero]); rfl)
              case hf_u55 => kernel_rfl
              case hr_u55 => kernel_rfl
              case hQ_u55 => exact fun _ _ _ h => h
              case hw_u55 => rfl
              case hy_u55 => ((intro w hSw; (try dsimp only at hSw); obtain ⟨hSa, hSb, hSc⟩ := hSw; go_simp); all_goals (with_reducible rfl))
              try simp only [Act.put, List.setIfInBounds_toArray, List.set_cons_zero, List.set_cons_succ]
              have hbd := hHeld.1
              have HTd := Lib.hid hHeld.2.1
              clear hHeld
              have c1 := HTd.out.cell (j := 1) rfl
              have cf := HTd.out.frozen
              refine UpTo.one (i := 12) (o := ?o_u56) (by kernel_rfl) ?hi_u56 (fun K hK => ?rest_u56)
              case hi_u56 => ((simp only [List.getElem?_toArray, List.getElem?_cons_succ, List.getElem?_cons_zero]); rfl)
              go_simp
              refine hK.out _ _ (fun q => absurd q (by decide)) (fun _ => ?_)
              clear hK K
              try simp only [Act.put, List.setIfInBounds_toArray, List.set_cons_zero, List.set_cons_succ]
              refine UpTo.done (by kernel_rfl) ?_ _
              have HT2 := Lib.hid (HTd.out.set 1 (.slice sa2 (k + 1) sC2))
              have hb2x := belSet hbd ⟨W1.heap.size, 1, none⟩ (.slice sa2 (k + 1) sC2) (Nat.le_refl _)
              have HO2 := Lib.hid (OwnR.setCell HO9.out (a := ⟨W1.heap.size, 1, none⟩) (show W1.heap.size < W5.heap.size by omega) (.slice sa2 (k + 1) sC2))
              have hs11 : (w9.setCell ⟨W1.heap.size, 1, none⟩ (.slice sa2 (k + 1) sC2)).heap.size = w9.heap.size := by simp
              clear c1 cf HTd hbd HO9
              generalize w9.setCell ⟨W1.heap.size, 1, none⟩ (.slice sa2 (k + 1) sC2) = w10 at *
              have HLN2 := Lib.hid (show (L ++ [(⟨p, bA⟩ : EntV)]).length = k + 1 by rw [List.length_append, HLK.out]; rfl)
              have HO3 := Lib.hid (show OwnR w10 W5.heap.size 46 12 (.slice sa2 (k + 1) sC2) (k + 1) ((L ++ [(⟨p, bA⟩ : EntV)]).flatMap EntV.cells) from by rw [List.flatMap_append]; simpa using HO2.out)
              have HK2 := Lib.hid (show ∀ x ∈ L ++ [(⟨p, bA⟩ : EntV)], x.ok from fun x hx => (List.mem_append.1 hx).elim (fun h => HOK.out x h) (fun h => by rw [List.mem_singleton.1 h]; exact HPO.out))
              have hw1 : IntKind.i64.wrap ((D : Int) + (M : Int)) = (D : Int) + (M : Int) := IntWalk.i64_in _ (by omega)
              clear HO2
              go_wp2
              go_roundw
              case rel => exact ⟨k + 1, D + M, L ++ [⟨p, bA⟩], sa2, sC2, by omega, by push_cast; rfl, by push_cast; rfl, by omega, hMn, HLN2, HST, HK2, HT2, HO3, hb2x, by omega⟩
              case measure => simp [intOf] <;> omega
        · obtain rfl : k = c9 := by omega
          have hd : decide ((k : Int) < (k : Int)) = false := decide_eq_false (by omega)
          have hv9 : IntKind.i64.wrap (k : Int) = (k : Int) := IntWalk.i64_in _ (by omega)
          by_cases hAe : A = n
          · subst hAe
            have hne : ((A : Int) != (A : Int)) = false := by simp
            obtain ⟨sb, hsb⟩ : ∃ z, stB R L = z := ⟨_, rfl⟩
            have hrow : Row wr sa k sC 12 (L.flatMap EntV.cells) := by obtain ⟨a2, c2, e2, hr⟩ := rowR_of_own HO.out; simp only [Value.slice.injEq] at e2; obtain ⟨rfl, _, rfl⟩ := e2; exact hr
            have CR := Lib.hid (show Calls Try.prog 15 #[.agg #[.int .i64 R, .slice sa k sC, .bool oa, .bool ob, .bool oc]] wr fun e w' => e = .returned (.bool sb) ∧ Below wr.heap.size wr w' from hsb ▸ sref_Right R sa k sC ⟨oa, ob, oc⟩ L wr HLK.out HOK.out hrow)
            have HSB := Lib.hid hsb
            clear hsb hrow
            have t0 := HT.out.cell (j := 0) rfl
            have t1 := HT.out.cell (j := 1) rfl
            have t2 := HT.out.cell (j := 2) rfl
            have t3 := HT.out.cell (j := 3) rfl
            have t4 := HT.out.cell (j := 4) rfl
            have HRW := Lib.hid (show IntKind.i64.wrap (N8 (l.take 8) : Int) = R from by rw [show ((N8 (l.take 8) : Nat) : Int) = R from HRV.out]; exact IntWalk.i64_in _ (by omega))
            have HEA := Lib.hid (show entsF (l.drop 10) k = some (L, []) from by rw [HEF.out, List.drop_of_length_le (by rw [HLL.out]; exact Nat.le_refl _)])
            cases sb with
            | false =>
              have HNO := Lib.hid (show ∀ r o M, ¬ GetOK l r o M from fun r2 o2 M hG => by
                obtain ⟨_, g2, _, g4, g5⟩ := hG
                rw [HC9.out, HEA.out] at g4
                simp only [Option.some.injEq, Prod.mk.injEq, and_true] at g4
                rw [g2, HRW.out, ← g4, HSB.out] at g5
                cases g5)
              go_wp2_with (go_at_call 15; (with_reducible refine (CR.out).mono ?_); rintro e w6 ⟨rfl, hb6⟩; have hbz := belStep hbel hb6; have HT6 := Lib.hid (HT.out.later hb6); have HO6 := Lib.hid (HO.out.later hb6); have s0 := HT6.out.cell (j := 0) rfl; have s1 := HT6.out.cell (j := 1) rfl; have s2 := HT6.out.cell (j := 2) rfl; have s3 := HT6.out.cell (j := 3) rfl; have s4 := HT6.out.cell (j := 4) rfl; clear hbel; have hbel := hbz; clear hbz hb6)
              refine rget_ret _ w.heap.size _ 0 (.slice none 0 0) false false false false _ rfl rfl ((((((HZ.out.later hbel).set 0 (.int .i64 0)).set 1 (.slice none 0 0)).set 2 (.bool false)).set 3 (.bool false)).set 4 (.bool false)) ⟨.inr ⟨HNO.out, rfl⟩, (belSet (belSet (belSet (belSet (belSet (belStep HW1.out hbel) ⟨w.heap.size, 0, none⟩ (.int .i64 0) (Nat.le_refl _)) ⟨w.heap.size, 1, none⟩ (.slice none 0 0) (Nat.le_refl _)) ⟨w.heap.size, 2, none⟩ (.bool false) (Nat.le_refl _)) ⟨w.heap.size, 3, none⟩ (.bool false) (Nat.le_refl _)) ⟨w.heap.size, 4, none⟩ (.bool false) (Nat.le_refl _))⟩
            | true =>
              have HGO := Lib.hid (show GetOK l R ⟨oa, ob, oc⟩ L from ⟨by rw [HLL.out]; omega, HRW.out.symm, by rw [HON.out, E8.out], by rw [HC9.out]; exact HEA.out, HSB.out⟩)
              go_wp2_with (go_at_call 15; (with_reducible refine (CR.out).mono ?_); rintro e w6 ⟨rfl, hb6⟩; have hbz := belStep hbel hb6; have HT6 := Lib.hid (HT.out.later hb6); have HO6 := Lib.hid (HO.out.later hb6); have s0 := HT6.out.cell (j := 0) rfl; have s1 := HT6.out.cell (j := 1) rfl; have s2 := HT6.out.cell (j := 2) rfl; have s3 := HT6.out.cell (j := 3) rfl; have s4 := HT6.out.cell (j := 4) rfl; clear hbel; have hbel := hbz; clear hbz hb6)
              refine rget_ret _ w.heap.size _ R (.slice sa k sC) oa ob oc true _ rfl rfl ((((((HZ.out.later hbel).set 0 (.int .i64 R)).set 1 (.slice sa k sC)).set 2 (.bool oa)).set 3 (.bool ob)).set 4 (.bool oc)) ⟨.inl ⟨R, ⟨oa, ob, oc⟩, L, sa, sC, HGO.out, by rw [HLK.out], ?_⟩, (belSet (belSet (belSet (belSet (belSet (belStep HW1.out hbel) ⟨w.heap.size, 0, none⟩ (.int .i64 R) (Nat.le_refl _)) ⟨w.heap.size, 1, none⟩ (.slice sa k sC) (Nat.le_refl _)) ⟨w.heap.size, 2, none⟩ (.bool oa) (Nat.le_refl _)) ⟨w.heap.size, 3, none⟩ (.bool ob) (Nat.le_refl _)) ⟨w.heap.size, 4, none⟩ (.bool oc) (Nat.le_refl _))⟩
              rw [HLK.out]
              have ho := OwnR.mono (OwnR.setCell (OwnR.setCell (OwnR.setCell (OwnR.setCell (OwnR.setCell HO6.out (a := ⟨w.heap.size, 0, none⟩) (show w.heap.size < W5.heap.size by omega) (.int .i64 R)) (a := ⟨w.heap.size, 1, none⟩) (show w.heap.size < W5.heap.size by omega) (.slice sa k sC)) (a := ⟨w.heap.size, 2, none⟩) (show w.heap.size < W5.heap.size by omega) (.bool oa)) (a := ⟨w.heap.size, 3, none⟩) (show w.heap.size < W5.heap.size by omega) (.bool ob)) (a := ⟨w.heap.size, 4, none⟩) (show w.heap.size < W5.heap.size by omega) (.bool oc)) (show w.heap.size ≤ W5.heap.size by omega)
              obtain ⟨a2, c2, e2, hr⟩ := rowR_of_own ho
              simp only [Value.slice.injEq] at e2
              obtain ⟨rfl, _, rfl⟩ := e2
              exact hr
          · have hne : ((A : Int) != (n : Int)) = true := by rw [bne_iff_ne]; omega
            have hne2 : ¬ (A : Int) = (n : Int) := by omega
            have HNO := Lib.hid (show ∀ r o M, ¬ GetOK l r o M from fun r2 o2 M hG => by
              have g4 := hG.2.2.2.1
              rw [HC9.out, HEF.out] at g4
              simp only [Option.some.injEq, Prod.mk.injEq] at g4
              have := congrArg List.length g4.2
              rw [List.length_drop, HLL.out] at this
              simp at this
              omega)
            go_wp2
            refine rget_ret _ w.heap.size _ 0 (.slice none 0 0) false false false false _ rfl rfl ((((((HZ.out.later hbel).set 0 (.int .i64 0)).set 1 (.slice none 0 0)).set 2 (.bool false)).set 3 (.bool false)).set 4 (.bool false)) ⟨.inr ⟨HNO.out, rfl⟩, (belSet (belSet (belSet (belSet (belSet (belStep HW1.out hbel) ⟨w.heap.size, 0, none⟩ (.int .i64 0) (Nat.le_refl _)) ⟨w.heap.size, 1, none⟩ (.slice none 0 0) (Nat.le_refl _)) ⟨w.heap.size, 2, none⟩ (.bool false) (Nat.le_refl _)) ⟨w.heap.size, 3, none⟩ (.bool false) (Nat.le_refl _)) ⟨w.heap.size, 4, none⟩ (.bool false) (Nat.le_refl _))⟩
theorem sref_GetI (a : Option Addr) (n c : Nat) (l : List Int) (w : World) (hI : Ints .u8 w a n c l) (hn : n ≤ 9000) {r : Int} {o : On} {L : List EntV} (h : GetOK l r o L) :
    Calls Try.prog 19 #[.slice a n c] w fun e w' => ∃ b d, e = .returned (.tuple #[.agg #[.int .i64 r, .slice b L.length d, .bool o.a, .bool o.b, .bool o.c], .bool true]) ∧ Row w' b L.length d 12 (L.flatMap EntV.cells) ∧ Below w.heap.size w w' := by
  refine (sref_Get a n c l w hI hn).mono ?_
  rintro e w' ⟨⟨r', o', L', b, d, h', rfl, hr⟩ | ⟨hno, _⟩, hb⟩
  · obtain ⟨rfl, rfl, rfl⟩ := h'.uniq h
    exact ⟨b, d, rfl, hr, hb⟩
  · exact absurd h (hno _ _ _)
theorem sref_GetN (a : Option Addr) (n c : Nat) (l : List Int) (w : World) (hI : Ints .u8 w a n c l) (hn : n ≤ 9000) (h : ∀ r o L, ¬ GetOK l r o L) :
    Calls Try.prog 19 #[.slice a n c] w fun e w' => e = .returned (.tuple #[.agg #[.int .i64 0, .slice none 0 0, .bool false, .bool false, .bool false], .bool false]) ∧ Below w.heap.size w w' := by
  refine (sref_Get a n c l w hI hn).mono ?_
  rintro e w' ⟨⟨r', o', L', b, d, h', _⟩ | ⟨_, rfl⟩, hb⟩
  · exact absurd h' (h _ _ _)
  · exact ⟨rfl, hb⟩
set_option maxRecDepth 100000 in
set_option maxHeartbeats 16000000 in
theorem walk (a : Option Addr) (len cap : Nat) (l : List Int) (w : World) (hl : Ints .u8 w a len cap l) :
    Calls Try.prog 4 #[.slice a len cap] w fun e w' => e = .returned (.bool true) ∧ Below w.heap.size w w' := by
  have hw : Below w.heap.size w w := Below.refl _ _
  have hbel := hw
  have hby := bytes_of hl
  obtain ⟨hll, hb1, hb2⟩ := hl.bounds
  have HI := Lib.hid hl
  have HBY := Lib.hid hby
  have HLL := Lib.hid hll
  clear hl hby hll
  by_cases h9 : 9000 < len
  · have d1 : decide ((9000 : Int) < (len : Int)) = true := decide_eq_true (by omega)
    have d2 : (9000 : Int) < (len : Int) := by omega
    go_enter Try.func4, Try.ntmps4
    go_wp2_with (go_at_call 11; (with_reducible refine (awake24 _).mono ?_); rintro e w1 ⟨rfl, hb1⟩; replace hbel := belStep hbel hb1; clear hb1)
    go_ret
    exact ⟨rfl, hbel⟩
  have d1 : decide ((9000 : Int) < (len : Int)) = false := decide_eq_false (by omega)
  have d2 : ¬ (9000 : Int) < (len : Int) := by omega
  have HB := Lib.hid hw
  clear hw
  by_cases hg : ∃ r o L, GetOK l r o L
  · obtain ⟨r, o, L, hG⟩ := hg
    have HOK := Lib.hid (getok_ok HBY.out (by rw [HLL.out]; omega) hG)
    have HST := Lib.hid hG.2.2.2.2
    have HSB := Lib.hid (show stBytes r.toNat o L = l from by obtain ⟨rn, e1, e2⟩ := get_inv HBY.out hG; rw [e2, e1]; rfl)
    have CG := Lib.hid (fun u (hu : Below w.heap.size w u) => st_GetI a len cap l u (HI.out.later hu) (by omega) hG)
    have CR := Lib.hid (fun u (hu : Below w.heap.size w u) => sref_GetI a len cap l u (HI.out.later hu) (by omega) hG)
    have CP := Lib.hid (fun u b d (hr : Row u b L.length d 12 (L.flatMap EntV.cells)) => st_PutI r b L.length d o L u rfl HOK.out hr HST.out)
    rw [HSB.out, HLL.out] at CP
    clear hG HSB
    go_enter Try.func4, Try.ntmps4
    go_upto_region 3 with (go_at_call 11; (with_reducible refine (awake24 _).mono ?_); rintro e w1 ⟨rfl, hb1⟩; replace hbel := belStep hbel hb1; clear hb1)
    replace HB := Lib.hid hbel
    clear hbel
    go_upto_region 4 with (go_at_call 18; (with_reducible refine (CG.out _ HB.out).mono ?_); rintro e w3 ⟨b3, d3, rfl, hr, hb_⟩; replace HB := Lib.hid (belStep HB.out hb_); have HR3 := Lib.hid hr; clear hr; clear hb_)
    have k1 : Below w3.heap.size w3 (w3.alloc (.cells #[.int .i64 r, .slice b3 L.length d3, .bool o.a, .bool o.b, .bool o.c] 25)) := belAlloc (Below.refl _ _) _
    have hn_ := Blk.new w3 [.int .i64 r, .slice b3 L.length d3, .bool o.a, .bool o.b, .bool o.c] 25
    replace HR3 := Lib.hid (HR3.out.later k1)
    replace HB := Lib.hid (belStep HB.out k1)
    have HS := Lib.hid (show Blk (w3.alloc (.cells #[.int .i64 r, .slice b3 L.length d3, .bool o.a, .bool o.b, .bool o.c] 25)) w3.heap.size [.int .i64 r, .slice b3 L.length d3, .bool o.a, .bool o.b, .bool o.c] 25 from hn_)
    clear hn_ k1
    generalize w3.alloc (.cells #[.int .i64 r, .slice b3 L.length d3, .bool o.a, .bool o.b, .bool o.c] 25) = W3 at *
    go_upto_region 5 with (go_at_call 19; (with_reducible refine (CR.out _ HB.out).mono ?_); rintro e w4 ⟨b4, d4, rfl, hr, hb_⟩; replace HR3 := Lib.hid (HR3.out.later hb_); replace HS := Lib.hid (HS.out.later hb_); replace HB := Lib.hid (belStep HB.out hb_); have HR4 := Lib.hid hr; clear hr; clear hb_)
    have k1 : Below w4.heap.size w4 (w4.alloc (.cells #[.int .i64 r, .slice b4 L.length d4, .bool o.a, .bool o.b, .bool o.c] 25)) := belAlloc (Below.refl _ _) _
    have hn_ := Blk.new w4 [.int .i64 r, .slice b4 L.length d4, .bool o.a, .bool o.b, .bool o.c] 25
    replace HR3 := Lib.hid (HR3.out.later k1)
    replace HR4 := Lib.hid (HR4.out.later k1)
    replace HS := Lib.hid (HS.out.later k1)
    replace HB := Lib.hid (belStep HB.out k1)
    have HT := Lib.hid (show Blk (w4.alloc (.cells #[.int .i64 r, .slice b4 L.length d4, .bool o.a, .bool o.b, .bool o.c] 25)) w4.heap.size [.int .i64 r, .slice b4 L.length d4, .bool o.a, .bool o.b, .bool o.c] 25 from hn_)
    clear hn_ k1
    generalize w4.alloc (.cells #[.int .i64 r, .slice b4 L.length d4, .bool o.a, .bool o.b, .bool o.c] 25) = W4 at *
    have hbel : Below W4.heap.size W4 W4 := Below.refl _ _
    have ss0 := keep (HS.out.cell (j := 0) rfl)
    have ss1 := keep (HS.out.cell (j := 1) rfl)
    have ss2 := keep (HS.out.cell (j := 2) rfl)
    have ss3 := keep (HS.out.cell (j := 3) rfl)
    have ss4 := keep (HS.out.cell (j := 4) rfl)
    have tt0 := keep (HT.out.cell (j := 0) rfl)
    have tt1 := keep (HT.out.cell (j := 1) rfl)
    have tt2 := keep (HT.out.cell (j := 2) rfl)
    have tt3 := keep (HT.out.cell (j := 3) rfl)
    have tt4 := keep (HT.out.cell (j := 4) rfl)
    have CSS := Lib.hid (fun u (hu : Below W4.heap.size W4 u) => ((sameS_iff r o L r o L).2 ⟨rfl, rfl, rfl⟩) ▸ sref_SameS r b3 L.length d3 o L r b4 L.length d4 o L u rfl (HR3.out.later hu) rfl (HR4.out.later hu))
    have HIX := Lib.hid (HI.out.later HB.out)
    go_upto_region 8 with (go_at_call 13; (with_reducible refine (CP.out _ b3 d3 (HR3.out.later hbel)).mono ?_); rintro e w5 ⟨b5, d5, rfl, _, hi, hb_⟩; have HI5 := Lib.hid hi; have HB5 := Lib.hid (belStep hbel hb_); clear hi hb_ hbel)
    have hbel := HB5.out
    have hbx : Below w5.heap.size w5 w5 := Below.refl _ _
    go_wp2_with (first | (go_at_call 20; (with_reducible refine (CSS.out _ hbel).mono ?_); rintro e w6 ⟨rfl, hb_⟩; have hbz := belStep hbel hb_; have hby := belStep hbx hb_; clear hbel hbx hb_; have hbel := hbz; have hbx := hby; clear hbz hby) | (go_at_call 16; (with_reducible refine (sref_Same a len cap l b5 len d5 l _ (HIX.out.later hbel) (HI5.out.later hbx)).mono ?_); rintro e w7 ⟨rfl, rfl⟩))
    go_ret
    exact ⟨by simp, belStep HB.out hbel⟩
  · have hno : ∀ r o L, ¬ GetOK l r o L := fun r o L h => hg ⟨r, o, L, h⟩
    have CG := Lib.hid (fun u (hu : Below w.heap.size w u) => st_GetN a len cap l u (HI.out.later hu) (by omega) hno)
    have CR := Lib.hid (fun u (hu : Below w.heap.size w u) => sref_GetN a len cap l u (HI.out.later hu) (by omega) hno)
    clear hno hg
    go_enter Try.func4, Try.ntmps4
    go_upto_region 3 with (go_at_call 11; (with_reducible refine (awake24 _).mono ?_); rintro e w1 ⟨rfl, hb1⟩; replace hbel := belStep hbel hb1; clear hb1)
    replace HB := Lib.hid hbel
    clear hbel
    go_upto_region 4 with (go_at_call 18; (with_reducible refine (CG.out _ HB.out).mono ?_); rintro e w3 ⟨rfl, hb_⟩; replace HB := Lib.hid (belStep HB.out hb_); clear hb_)
    have k1 : Below w3.heap.size w3 (w3.alloc (.cells #[.int .i64 0, .slice none 0 0, .bool false, .bool false, .bool false] 25)) := belAlloc (Below.refl _ _) _
    have hn_ := Blk.new w3 [.int .i64 0, .slice none 0 0, .bool false, .bool false, .bool false] 25
    replace HB := Lib.hid (belStep HB.out k1)
    have HS := Lib.hid (show Blk (w3.alloc (.cells #[.int .i64 0, .slice none 0 0, .bool false, .bool false, .bool false] 25)) w3.heap.size [.int .i64 0, .slice none 0 0, .bool false, .bool false, .bool false] 25 from hn_)
    clear hn_ k1
    generalize w3.alloc (.cells #[.int .i64 0, .slice none 0 0, .bool false, .bool false, .bool false] 25) = W3 at *
    go_upto_region 5 with (go_at_call 19; (with_reducible refine (CR.out _ HB.out).mono ?_); rintro e w4 ⟨rfl, hb_⟩; replace HS := Lib.hid (HS.out.later hb_); replace HB := Lib.hid (belStep HB.out hb_); clear hb_)
    have k1 : Below w4.heap.size w4 (w4.alloc (.cells #[.int .i64 0, .slice none 0 0, .bool false, .bool false, .bool false] 25)) := belAlloc (Below.refl _ _) _
    have hn_ := Blk.new w4 [.int .i64 0, .slice none 0 0, .bool false, .bool false, .bool false] 25
    replace HS := Lib.hid (HS.out.later k1)
    replace HB := Lib.hid (belStep HB.out k1)
    have HT := Lib.hid (show Blk (w4.alloc (.cells #[.int .i64 0, .slice none 0 0, .bool false, .bool false, .bool false] 25)) w4.heap.size [.int .i64 0, .slice none 0 0, .bool false, .bool false, .bool false] 25 from hn_)
    clear hn_ k1
    generalize w4.alloc (.cells #[.int .i64 0, .slice none 0 0, .bool false, .bool false, .bool false] 25) = W4 at *
    have hbel : Below W4.heap.size W4 W4 := Below.refl _ _
    have ss0 := keep (HS.out.cell (j := 0) rfl)
    have ss1 := keep (HS.out.cell (j := 1) rfl)
    have ss2 := keep (HS.out.cell (j := 2) rfl)
    have ss3 := keep (HS.out.cell (j := 3) rfl)
    have ss4 := keep (HS.out.cell (j := 4) rfl)
    have tt0 := keep (HT.out.cell (j := 0) rfl)
    have tt1 := keep (HT.out.cell (j := 1) rfl)
    have tt2 := keep (HT.out.cell (j := 2) rfl)
    have tt3 := keep (HT.out.cell (j := 3) rfl)
    have tt4 := keep (HT.out.cell (j := 4) rfl)
    have CSS := Lib.hid (fun u (hu : Below W4.heap.size W4 u) => show Calls Try.prog 20 #[.agg #[.int .i64 0, .slice none 0 0, .bool false, .bool false, .bool false], .agg #[.int .i64 0, .slice none 0 0, .bool false, .bool false, .bool false]] u fun e w' => e = .returned (.bool true) ∧ Below u.heap.size u w' from sref_SameS 0 none 0 0 ⟨false, false, false⟩ [] 0 none 0 0 ⟨false, false, false⟩ [] u rfl (row0 u) rfl (row0 u))
    go_wp2_with (go_at_call 20; (with_reducible refine (CSS.out _ hbel).mono ?_); rintro e w6 ⟨rfl, hb_⟩; have hbz := belStep hbel hb_; clear hbel hb_; have hbel := hbz; clear hbz)
    go_ret
    exact ⟨by simp, belStep HB.out hbel⟩

set_option maxRecDepth 100000 in
theorem lifted (os : Os) (started : os.Started) (H : Type) (enc : TypeId × Value → H) :
    ReturnsInHanded {} Try.checked os 4 .any (Rows.stateGetsSpec.pre6 enc Try.prog Try.f4 Rows.stateGetsRow.domain false) (Rows.stateGetsSpec.post enc Try.prog Try.f4 false true false false) := by
  refine returnsInHanded_of_change (C := Try.checked) own started (by kernel_rfl) Try.func4
    (ChangeSpec.witness6 (enc := enc) (C := Try.checked) false ⟨#[], #[.slice none 0 0], []⟩ 8 (by kernel_rfl) (by kernel_rfl) (by kernel_rfl) (by kernel_rfl)) ?_
  intro W base args ds gs before hval0 hW hcnd _
  have hval : ∀ (j : Nat) t v, Try.f4.params[j]? = some t → args[j]? = some v → Value.okWide Try.prog W .any base t v := hval0
  have hW' := hW
  obtain ⟨p, q, hA0, hV, rfl, hfz, hnd⟩ := hW
  have hA : DataW.TrodAll enc Try.prog W 0 (fun _ => true) true Try.f4.params.toList args.toList ds p := hA0
  rw [Try.params4] at hA hval
  obtain ⟨v0, vs0, d0, ds0, p0, q0, hargs, rfl, rfl, h0, r0⟩ := trodAll_cons hA
  obtain ⟨rfl, rfl, rfl⟩ := trodAll_nil r0
  obtain rfl : args = #[v0] := by cases args; simp_all
  obtain ⟨rfl, rfl⟩ := trodVars_none hV
  have k0 := h0
  have lt0 : ∀ x ∈ p0, x.block < W.heap.size := by obtain ⟨m, hm⟩ := k0; exact DataW.trod_lt m _ _ _ hm
  have o0 : Value.okWide Try.prog W .any base 28 v0 := hval 0 28 v0 rfl rfl
  obtain ⟨a0, len0, cap0, rfl⟩ := okWide_slice Try.underlying28 o0
  obtain ⟨z0, w0⟩ : ∃ zs, Ints .u8 W a0 len0 cap0 zs := ints_of_trod Try.underlying28 Try.underlying5 (by kernel_rfl) h0
  clear hA0 hval0
  refine (walk a0 len0 cap0 z0 W w0).mono fun e W' ⟨he, bel⟩ => ?_
  subst he
  exact ⟨_, rfl, _, _, _, [], _, [], hW', trodAll_mk1 (shut_bool Try.underlying4 _), (trodAll_cons_mk (Below.trod laidOut (by kernel_rfl) (of_decide_eq_true (by kernel_rfl)) k0 bel lt0) trodAll_mk0), rfl, bel.frame _, fun h => by cases h⟩

theorem over : Rows.stateGetsRow.holds Try.pinned (OpenSpec.ofChange Rows.stateGetsSpec) :=
  OpenClaim.holds_of_wide 4 Try.f4 rfl rfl rfl rfl rfl rfl rfl ⟨rfl, rfl, rfl, rfl, rfl⟩ rfl rfl rfl rfl rfl (by kernel_rfl) Try.func4 (by kernel_rfl)
    (of_decide_eq_true (by kernel_rfl)) (by unfold Func.isWrapper; first | (rw [if_pos (by decide +kernel)]; kernel_rfl) | (rw [if_neg (by decide +kernel)]; exact ⟨rfl, rfl⟩))
    (fun os started H enc _ => lifted os started H enc)

/-- The statement. -/
theorem proved : Rows.StateGetsSaid := over
#print axioms proved

end Go.Proofs.Ytpmkhimmlpnbpaa.stateGets
