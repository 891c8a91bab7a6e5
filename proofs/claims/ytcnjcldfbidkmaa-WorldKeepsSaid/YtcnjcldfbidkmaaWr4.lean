
/- The reference of stage 16: do. -/
import Derived.Test.YtcnjcldfbidkmaaWr3
namespace Go.Proofs.Ytcnjcldfbidkmaa
open Go.RowKit Go.Sort
set_option linter.unusedVariables false
set_option linter.unusedSimpArgs false
theorem cont_one4 (x : ContV) : ∀ v ∈ x.cells, v.oneCell' = true := by
  intro v hv; simp only [ContV.cells, List.mem_cons, List.not_mem_nil, or_false] at hv; rcases hv with rfl | rfl | rfl | rfl <;> rfl
def doF (s : ByteArray) (what : Int) (well : Bool) (round r : Int) (c : ContV) : ContV := if c.id.toList == s.toList then newC c what well round r else c
def not5 (c : ContV) : Bool := !(c.state == 5)
def doL (L : List ContV) (s : ByteArray) (what : Int) (well : Bool) (round r : Int) : List ContV := (L.map (doF s what well round r)).filter not5
theorem doL_len (L : List ContV) (s : ByteArray) (what : Int) (well : Bool) (round r : Int) : (doL L s what well round r).length ≤ L.length := by
  unfold doL; exact Nat.le_trans (List.length_filter_le _ _) (by rw [List.length_map]; exact Nat.le_refl _)
theorem doL_next {L : List ContV} {s : ByteArray} {what : Int} {well : Bool} {round r : Int} {k : Nat} {x : ContV} (h : L[k]? = some x) : doL (L.take (k + 1)) s what well round r = doL (L.take k) s what well round r ++ (if not5 (doF s what well round r x) then [doF s what well round r x] else []) := by
  unfold doL
  rw [takeG_next h, List.map_append, List.filter_append]
  congr 1
  simp only [List.map_cons, List.map_nil, List.filter_cons, List.filter_nil]
theorem doL_same {L : List ContV} {s : ByteArray} (what : Int) (well : Bool) (round r : Int) (h : ∀ x ∈ L, (x.id.toList == s.toList) = false ∧ x.state ≠ 5) : doL L s what well round r = L := by
  unfold doL
  have e : L.map (doF s what well round r) = L := by
    conv => rhs; rw [← List.map_id L]
    refine List.map_congr_left (fun x hx => ?_)
    unfold doF
    rw [if_neg (by rw [(h x hx).1]; simp)]
    rfl
  rw [e, List.filter_eq_self]
  intro x hx
  unfold not5
  rw [show (x.state == 5) = false from by rw [beq_eq_false_iff_ne]; exact (h x hx).2]
  rfl
theorem doL_settle {L : List ContV} {s : ByteArray} {p : Nat} {x : ContV} (what : Int) (well : Bool) (round r : Int) (hr : RisesC L) (h5 : ∀ y ∈ L, y.state ≠ 5) (hx : L[p]? = some x) (he : x.id.toList = s.toList) : doL L s what well round r = settleC L p x what well round r := by
  have hp := (List.getElem?_eq_some_iff.1 hx).1
  have e : L = L.take p ++ x :: L.drop (p + 1) := by rw [← (List.getElem?_eq_some_iff.1 hx).2, ← List.drop_eq_getElem_cons hp, List.take_append_drop]
  have ht : doL (L.take p) s what well round r = L.take p := doL_same what well round r (fun y hy => by
    refine ⟨?_, h5 y (List.mem_of_mem_take hy)⟩
    obtain ⟨i, hi⟩ := List.getElem?_of_mem hy
    have hip : i < p := by
      rcases Nat.lt_or_ge i p with q | q
      · exact q
      · rw [List.getElem?_eq_none (by rw [List.length_take]; omega)] at hi; cases hi
    rw [List.getElem?_take_of_lt hip] at hi
    have hlt := hr.lt hi hx hip
    rw [beq_eq_false_iff_ne]
    intro q
    rw [q, he] at hlt
    exact List.lt_irrefl _ hlt)
  have hd : doL (L.drop (p + 1)) s what well round r = L.drop (p + 1) := doL_same what well round r (fun y hy => by
    refine ⟨?_, h5 y (List.mem_of_mem_drop hy)⟩
    obtain ⟨i, hi⟩ := List.getElem?_of_mem hy
    rw [List.getElem?_drop] at hi
    have hlt := hr.lt hx hi (by omega)
    rw [beq_eq_false_iff_ne]
    intro q
    rw [q, he] at hlt
    exact List.lt_irrefl _ hlt)
  have hf : doF s what well round r x = newC x what well round r := by unfold doF; rw [if_pos (by rw [he]; exact beq_self_eq_true _)]
  have hs : doL L s what well round r = L.take p ++ ((if not5 (newC x what well round r) then [newC x what well round r] else []) ++ L.drop (p + 1)) := by
    conv => lhs; rw [e]
    unfold doL at ht hd ⊢
    rw [List.map_append, List.filter_append, ht, List.map_cons, List.filter_cons, hd, hf]
    congr 1
    split <;> simp
  rw [hs]
  unfold settleC not5
  by_cases h : (newC x what well round r).state = 5
  · rw [if_pos h, h]; simp
  · rw [if_neg h, if_pos (by rw [beq_eq_false_iff_ne.2 h]; rfl), List.set_eq_take_append_cons_drop, if_pos hp]
    rfl
theorem r16do_ret (W : World) (R : Nat) (tm : Array Value) (r : Int) (oa : Option Addr) (on oc : Nat) (ba : Option Addr) (bn bc : Nat) (ia : Option Addr) (inn ic : Nat) (Q : Ending → World → Prop) (h0 : tm.getD 10 undef = .pointer (some ⟨R, 0, none⟩)) (hb : Blk W R [.int .i64 r, .slice oa on oc, .slice ba bn bc, .slice ia inn ic] 31) (hR : Q (.returned (.agg #[.int .i64 r, .slice oa on oc, .slice ba bn bc, .slice ia inn ic])) W) :
    bodyPost Try.prog Try.f96 Q Exit.ret { tmps := tm, defers := [] } W := by
  have z0 := hb.cell (j := 0) rfl
  have z1 := hb.cell (j := 1) rfl
  have z2 := hb.cell (j := 2) rfl
  have z3 := hb.cell (j := 3) rfl
  refine bodyPost_ret (v := .agg #[.int .i64 r, .slice oa on oc, .slice ba bn bc, .slice ia inn ic]) ?_ rfl hR
  simp only [Array.getD_eq_getD_getElem?] at h0
  simp [results, Try.results96, go_sem, h0, z0, z1, z2, z3]
set_option maxRecDepth 100000 in
set_option maxHeartbeats 64000000 in
theorem r16_do (s : ByteArray) (what : Int) (well : Bool) (round : Int) (F : List Nat) (v : Value) (m : WorldV) (w : World) (hv : RIs F w v m) (hF : ∀ b ∈ F, b < w.heap.size) (hok : ∀ x ∈ m.boxes, x.ok ∧ x.state ≠ 5) (hn : m.boxes.length ≤ 100000) :
    Calls Try.prog 96 #[v, .string s, .int .i64 what, .bool well, .int .i64 round] w fun e w' => ∃ v', e = .returned v' ∧ RIs F w' v' { m with boxes := doL m.boxes s what well round m.retries } ∧ Below w.heap.size w w' := by
  have HOK := Lib.hid hok
  have hn9 := hn
  clear hok hn
  obtain ⟨r, O, L, I⟩ := m
  obtain ⟨oa, oc, ba, bc, ia, ic, rfl, hO, hL, hI, hN⟩ := hv
  dsimp only at hO hL hI hN ⊢
  have HNF := Lib.hid hN
  have HFF := Lib.hid hF
  clear hN hF
  have hbo : O.length ≤ oc ∧ oc ≤ 9223372036854775807 := by obtain ⟨_, h1, h2, _⟩ := hO; unfold maxLen at h2; exact ⟨h1, h2⟩
  obtain ⟨hbo1, hbo2⟩ := hbo
  have hbb : L.length ≤ bc ∧ bc ≤ 9223372036854775807 := by obtain ⟨_, h1, h2, _⟩ := hL; unfold maxLen at h2; exact ⟨h1, h2⟩
  obtain ⟨hbb1, hbb2⟩ := hbb
  have hbi : I.length ≤ ic ∧ ic ≤ 9223372036854775807 := by obtain ⟨_, h1, h2, _⟩ := hI; unfold maxLen at h2; exact ⟨h1, h2⟩
  obtain ⟨hbi1, hbi2⟩ := hbi
  have HRO := Lib.hid hO
  have HRL := Lib.hid hL
  have HRI := Lib.hid hI
  clear hO hL hI
  have hw : Below w.heap.size w w := Below.refl _ _
  have hbel := hw
  dsimp only at hn9 HOK
  go_enter Try.func96, Try.ntmps96
  go_upto_region 1 with fail
  have pp0 : ((w.alloc (.cells #[.int .i64 r, .slice oa O.length oc, .slice ba L.length bc, .slice ia I.length ic] 31)).alloc (.cells #[.int .i64 0, .slice none 0 0, .slice none 0 0, .slice none 0 0] 31)).cell? ⟨w.heap.size, 0, none⟩ = some (.int .i64 r) := by first | (simp; done) | (rw [World.cell?_alloc_at _ _ _ _ (by simp)]; rfl) | (rw [World.cell?_alloc_past _ _ _ (by simp <;> omega), World.cell?_alloc_at _ _ _ _ (by simp)]; rfl) | (rw [World.cell?_alloc_past _ _ _ (by simp <;> omega), World.cell?_alloc_past _ _ _ (by simp <;> omega), World.cell?_alloc_at _ _ _ _ (by simp)]; rfl)
  have pp1 : ((w.alloc (.cells #[.int .i64 r, .slice oa O.length oc, .slice ba L.length bc, .slice ia I.length ic] 31)).alloc (.cells #[.int .i64 0, .slice none 0 0, .slice none 0 0, .slice none 0 0] 31)).cell? ⟨w.heap.size, 1, none⟩ = some (.slice oa O.length oc) := by first | (simp; done) | (rw [World.cell?_alloc_at _ _ _ _ (by simp)]; rfl) | (rw [World.cell?_alloc_past _ _ _ (by simp <;> omega), World.cell?_alloc_at _ _ _ _ (by simp)]; rfl) | (rw [World.cell?_alloc_past _ _ _ (by simp <;> omega), World.cell?_alloc_past _ _ _ (by simp <;> omega), World.cell?_alloc_at _ _ _ _ (by simp)]; rfl)
  have pp2 : ((w.alloc (.cells #[.int .i64 r, .slice oa O.length oc, .slice ba L.length bc, .slice ia I.length ic] 31)).alloc (.cells #[.int .i64 0, .slice none 0 0, .slice none 0 0, .slice none 0 0] 31)).cell? ⟨w.heap.size, 2, none⟩ = some (.slice ba L.length bc) := by first | (simp; done) | (rw [World.cell?_alloc_at _ _ _ _ (by simp)]; rfl) | (rw [World.cell?_alloc_past _ _ _ (by simp <;> omega), World.cell?_alloc_at _ _ _ _ (by simp)]; rfl) | (rw [World.cell?_alloc_past _ _ _ (by simp <;> omega), World.cell?_alloc_past _ _ _ (by simp <;> omega), World.cell?_alloc_at _ _ _ _ (by simp)]; rfl)
  have pp3 : ((w.alloc (.cells #[.int .i64 r, .slice oa O.length oc, .slice ba L.length bc, .slice ia I.length ic] 31)).alloc (.cells #[.int .i64 0, .slice none 0 0, .slice none 0 0, .slice none 0 0] 31)).cell? ⟨w.heap.size, 3, none⟩ = some (.slice ia I.length ic) := by first | (simp; done) | (rw [World.cell?_alloc_at _ _ _ _ (by simp)]; rfl) | (rw [World.cell?_alloc_past _ _ _ (by simp <;> omega), World.cell?_alloc_at _ _ _ _ (by simp)]; rfl) | (rw [World.cell?_alloc_past _ _ _ (by simp <;> omega), World.cell?_alloc_past _ _ _ (by simp <;> omega), World.cell?_alloc_at _ _ _ _ (by simp)]; rfl)
  have zz0 : ((w.alloc (.cells #[.int .i64 r, .slice oa O.length oc, .slice ba L.length bc, .slice ia I.length ic] 31)).alloc (.cells #[.int .i64 0, .slice none 0 0, .slice none 0 0, .slice none 0 0] 31)).cell? ⟨w.heap.size + 1, 0, none⟩ = some (.int .i64 0) := by first | (simp; done) | (rw [World.cell?_alloc_at _ _ _ _ (by simp)]; rfl) | (rw [World.cell?_alloc_past _ _ _ (by simp <;> omega), World.cell?_alloc_at _ _ _ _ (by simp)]; rfl) | (rw [World.cell?_alloc_past _ _ _ (by simp <;> omega), World.cell?_alloc_past _ _ _ (by simp <;> omega), World.cell?_alloc_at _ _ _ _ (by simp)]; rfl)
  have zz1 : ((w.alloc (.cells #[.int .i64 r, .slice oa O.length oc, .slice ba L.length bc, .slice ia I.length ic] 31)).alloc (.cells #[.int .i64 0, .slice none 0 0, .slice none 0 0, .slice none 0 0] 31)).cell? ⟨w.heap.size + 1, 1, none⟩ = some (.slice none 0 0) := by first | (simp; done) | (rw [World.cell?_alloc_at _ _ _ _ (by simp)]; rfl) | (rw [World.cell?_alloc_past _ _ _ (by simp <;> omega), World.cell?_alloc_at _ _ _ _ (by simp)]; rfl) | (rw [World.cell?_alloc_past _ _ _ (by simp <;> omega), World.cell?_alloc_past _ _ _ (by simp <;> omega), World.cell?_alloc_at _ _ _ _ (by simp)]; rfl)
  have zz2 : ((w.alloc (.cells #[.int .i64 r, .slice oa O.length oc, .slice ba L.length bc, .slice ia I.length ic] 31)).alloc (.cells #[.int .i64 0, .slice none 0 0, .slice none 0 0, .slice none 0 0] 31)).cell? ⟨w.heap.size + 1, 2, none⟩ = some (.slice none 0 0) := by first | (simp; done) | (rw [World.cell?_alloc_at _ _ _ _ (by simp)]; rfl) | (rw [World.cell?_alloc_past _ _ _ (by simp <;> omega), World.cell?_alloc_at _ _ _ _ (by simp)]; rfl) | (rw [World.cell?_alloc_past _ _ _ (by simp <;> omega), World.cell?_alloc_past _ _ _ (by simp <;> omega), World.cell?_alloc_at _ _ _ _ (by simp)]; rfl)
  have zz3 : ((w.alloc (.cells #[.int .i64 r, .slice oa O.length oc, .slice ba L.length bc, .slice ia I.length ic] 31)).alloc (.cells #[.int .i64 0, .slice none 0 0, .slice none 0 0, .slice none 0 0] 31)).cell? ⟨w.heap.size + 1, 3, none⟩ = some (.slice none 0 0) := by first | (simp; done) | (rw [World.cell?_alloc_at _ _ _ _ (by simp)]; rfl) | (rw [World.cell?_alloc_past _ _ _ (by simp <;> omega), World.cell?_alloc_at _ _ _ _ (by simp)]; rfl) | (rw [World.cell?_alloc_past _ _ _ (by simp <;> omega), World.cell?_alloc_past _ _ _ (by simp <;> omega), World.cell?_alloc_at _ _ _ _ (by simp)]; rfl)
  have hb2 := (by repeat (first | exact hbel | refine belAlloc ?_ _ | refine belDrew ?_ | refine belSet ?_ _ _ (by simp)) : Below w.heap.size w ((w.alloc (.cells #[.int .i64 r, .slice oa O.length oc, .slice ba L.length bc, .slice ia I.length ic] 31)).alloc (.cells #[.int .i64 0, .slice none 0 0, .slice none 0 0, .slice none 0 0] 31)))
  replace hw := belStep hw hb2
  have ppB : Blk ((w.alloc (.cells #[.int .i64 r, .slice oa O.length oc, .slice ba L.length bc, .slice ia I.length ic] 31)).alloc (.cells #[.int .i64 0, .slice none 0 0, .slice none 0 0, .slice none 0 0] 31)) (w.heap.size) [.int .i64 r, .slice oa O.length oc, .slice ba L.length bc, .slice ia I.length ic] 31 := (Blk.at (by simp) : Blk (w.alloc (.cells #[.int .i64 r, .slice oa O.length oc, .slice ba L.length bc, .slice ia I.length ic] 31)) (w.heap.size) [.int .i64 r, .slice oa O.length oc, .slice ba L.length bc, .slice ia I.length ic] 31).later (by repeat (first | exact Below.refl _ _ | refine belAlloc ?_ _))
  have ppF := Blk.keepF ppB
  replace ppB := Blk.keepB ppB
  have zzB : Blk ((w.alloc (.cells #[.int .i64 r, .slice oa O.length oc, .slice ba L.length bc, .slice ia I.length ic] 31)).alloc (.cells #[.int .i64 0, .slice none 0 0, .slice none 0 0, .slice none 0 0] 31)) (w.heap.size + 1) [.int .i64 0, .slice none 0 0, .slice none 0 0, .slice none 0 0] 31 := (Blk.at (by simp) : Blk ((w.alloc (.cells #[.int .i64 r, .slice oa O.length oc, .slice ba L.length bc, .slice ia I.length ic] 31)).alloc (.cells #[.int .i64 0, .slice none 0 0, .slice none 0 0, .slice none 0 0] 31)) (w.heap.size + 1) [.int .i64 0, .slice none 0 0, .slice none 0 0, .slice none 0 0] 31).later (by repeat (first | exact Below.refl _ _ | refine belAlloc ?_ _))
  have zzF := Blk.keepF zzB
  replace zzB := Blk.keepB zzB
  clear hb2 hbel
  generalize (w.alloc (.cells #[.int .i64 r, .slice oa O.length oc, .slice ba L.length bc, .slice ia I.length ic] 31)).alloc (.cells #[.int .i64 0, .slice none 0 0, .slice none 0 0, .slice none 0 0] 31) = W1 at *
  replace pp0 := keep pp0
  replace pp1 := keep pp1
  replace pp2 := keep pp2
  replace pp3 := keep pp3
  replace zz0 := keep zz0
  replace zz1 := keep zz1
  replace zz2 := keep zz2
  replace zz3 := keep zz3
  have hbel : Below W1.heap.size W1 W1 := Below.refl _ _
  skip
  have HP := Lib.hid (ppB W1 (Below.refl _ _))
  have HZ := Lib.hid (zzB W1 (Below.refl _ _))
  have HB := Lib.hid hw
  clear hw ppB zzB
  go_wp2
  go_loopw [11, 12] (fun v i wr => ∃ k : Nat, k ≤ L.length ∧ i = .int .i64 k ∧ OwnR wr W1.heap.size 44 4 v (doL (L.take k) s what well round r).length ((doL (L.take k) s what well round r).flatMap ContV.cells) ∧ Below W1.heap.size W1 wr) (fun _ i _ => L.length - (intOf i).toNat)
  case atStart => exact ⟨0, Nat.zero_le _, rfl, OwnR.nil _ _ _ _, Below.refl _ _⟩
  case round =>
    clear hbel
    obtain ⟨k, hk, rfl, hO, hbr⟩ := hrel
    by_cases hlt : k < L.length
    · have hd : decide ((k : Int) < (L.length : Int)) = true := decide_eq_true (by omega)
      have hki : (k : Int) < (L.length : Int) := by omega
      have hk0 : (0 : Int) ≤ (k : Int) := by omega
      replace pp0 := keepOn pp0 hbr
      replace pp2 := keepOn pp2 hbr
      clear pp1 pp3 zz0 zz1 zz2 zz3 ppF zzF
      obtain ⟨x, hx⟩ : ∃ x, L[k]? = some x := ⟨L[k], List.getElem?_eq_getElem hlt⟩
      obtain ⟨bx, ox, ec, _, hcc⟩ := (HRL.out.later (belStep HB.out hbr)).elem ContV.cells_len (by omega) hx
      subst ec
      have c0 := keep (hcc 0 _ rfl)
      have c1 := keep (hcc 1 _ rfl)
      have c2 := keep (hcc 2 _ rfl)
      have c3 := keep (hcc 3 _ rfl)
      rw [Nat.add_zero] at c0
      have hxo := HOK.out x (List.mem_of_getElem? hx)
      have HX := Lib.hid hx
      clear hx hcc
      have HBR := Lib.hid hbr
      clear hbr
      have hbel : Below wr.heap.size wr wr := Below.refl _ _
      go_upto_region 6 with fail
      have k1 : Below wr.heap.size wr (wr.alloc (.cells #[.string x.id, .int .i64 x.state, .int .i64 x.tries, .int .i64 x.last] 44)) := belAlloc (Below.refl _ _) _
      have HXB := Lib.hid (show Blk (wr.alloc (.cells #[.string x.id, .int .i64 x.state, .int .i64 x.tries, .int .i64 x.last] 44)) wr.heap.size [.string x.id, .int .i64 x.state, .int .i64 x.tries, .int .i64 x.last] 44 from Blk.new wr [.string x.id, .int .i64 x.state, .int .i64 x.tries, .int .i64 x.last] 44)
      have HO := Lib.hid (OwnR.alloc hO (.cells #[.string x.id, .int .i64 x.state, .int .i64 x.tries, .int .i64 x.last] 44))
      have hnx := own_ne_new hO (Nat.le_refl _)
      have HB5 := Lib.hid (belStep HBR.out k1)
      replace pp0 := keepOn pp0 k1
      replace pp2 := keepOn pp2 k1
      clear hO hbel k1 c0 c1 c2 c3
      have hx1 : wr.heap.size < (wr.alloc (.cells #[.string x.id, .int .i64 x.state, .int .i64 x.tries, .int .i64 x.last] 44)).heap.size := HXB.out.lt
      have hsr := HBR.out.size
      generalize wr.alloc (.cells #[.string x.id, .int .i64 x.state, .int .i64 x.tries, .int .i64 x.last] 44) = W5 at *
      have hbel : Below W5.heap.size W5 W5 := Below.refl _ _
      have xx0 := keep (HXB.out.cell (j := 0) rfl)
      have xx1 := keep (HXB.out.cell (j := 1) rfl)
      have xx2 := keep (HXB.out.cell (j := 2) rfl)
      have xx3 := keep (HXB.out.cell (j := 3) rfl)
      have hdl := doL_len (L.take k) s what well round r
      have htl : (L.take k).length ≤ L.length := by rw [List.length_take]; omega
      obtain ⟨N, hN⟩ : ∃ N, doL (L.take k) s what well round r = N := ⟨_, rfl⟩
      rw [hN] at HO hdl
      have HNX := Lib.hid (doL_next (s := s) (what := what) (well := well) (round := round) (r := r) HX.out)
      rw [hN] at HNX
      clear hN
      have hNl : N.length ≤ L.length := by omega
      cases he : (x.id.toList == s.toList) with
      | false =>
        have hs5 : (x.state == 5) = false := by rw [beq_eq_false_iff_ne]; exact hxo.2
        have HN := Lib.hid (show doL (L.take (k + 1)) s what well round r = N ++ [x] by rw [HNX.out]; unfold doF not5; rw [he]; simp only [Bool.false_eq_true, if_false]; rw [hs5]; rfl)
        clear hxo HNX
        have HOA := Lib.hid (OwnR.alloc HO.out (.cells #[.string x.id, .int .i64 x.state, .int .i64 x.tries, .int .i64 x.last] 44))
        have HXA := Lib.hid (row_new W5 [.string x.id, .int .i64 x.state, .int .i64 x.tries, .int .i64 x.last] 44 1 4 rfl (by unfold maxLen; omega))
        clear HO
        go_wp2_with (at_builtin; go_loud (refine wpList_app_row rfl _ _ 28 rfl W1.heap.size 44 _ 4 40 Try.underlying28 info_contI rfl (by decide) _ _ _ rfl HOA.out _ 1 1 [.string x.id, .int .i64 x.state, .int .i64 x.tries, .int .i64 x.last] rfl HXA.out (cont_one4 x) ?c1 ?c2 ?c3 ?_))
        case c1 => simp only [maxLen]; omega
        case c2 => omega
        case c3 => have := HB5.out.size; simp; omega
        intro v' w6 ho' hb' hg'
        have HO2 := Lib.hid (own_snocG (enc := ContV.cells) (x := x) ho')
        have HB2 := Lib.hid ((belAlloc HB5.out (.cells #[.string x.id, .int .i64 x.state, .int .i64 x.tries, .int .i64 x.last] 44)).trans hb')
        clear ho' hb'
        go_wp2
        go_roundw
        case rel => exact ⟨k + 1, by omega, by push_cast; rfl, by rw [HN.out]; exact HO2.out, HB2.out⟩
        case measure => simp [intOf] <;> omega
      | true =>
        have hf : doF s what well round r x = newC x what well round r := by unfold doF; rw [if_pos he]
        rw [hf] at HNX
        clear hf
        have CD := Lib.hid (fun u => bref_Do x.state x.tries what well r u hxo.1.2.2.1)
        have HY := Lib.hid (show newC x what well round r = ⟨x.id, doS x.state x.tries what well r, doN x.state x.tries what well r, if well then round else x.last⟩ from rfl)
        obtain ⟨s2, hs2⟩ : ∃ z, doS x.state x.tries what well r = z := ⟨_, rfl⟩
        obtain ⟨t2, ht2⟩ : ∃ z, doN x.state x.tries what well r = z := ⟨_, rfl⟩
        rw [hs2, ht2] at CD HY
        rw [HY.out] at HNX
        clear hs2 ht2 HY hxo
        go_upto_region 8 with (go_at_call 132; (with_reducible refine (CD.out _).mono ?_); rintro e w6 ⟨rfl, hb6⟩; have HB6 := Lib.hid hb6; clear hb6)
        clear CD
        have k2 : Below w6.heap.size w6 (w6.alloc (.cells #[.int .i64 s2, .int .i64 t2] 38)) := belAlloc (Below.refl _ _) _
        have HB7 := Lib.hid (belStep HB6.out k2)
        have HXB7 := Lib.hid (HXB.out.later HB7.out)
        have HO7 := Lib.hid (OwnR.later HO.out HB7.out)
        have HBB := Lib.hid (Blk.new w6 [.int .i64 s2, .int .i64 t2] 38)
        have HBW := Lib.hid (belStep HB5.out HB7.out)
        have hb0 := HBB.out.cell (j := 0) rfl
        have hb1 := HBB.out.cell (j := 1) rfl
        have y1 := HXB7.out.cell (j := 1) rfl
        have y2 := HXB7.out.cell (j := 2) rfl
        have yf := HXB7.out.frozen
        clear hbel xx0 xx1 xx2 xx3 pp0 pp2 k2 HXB HO HB6
        generalize w6.alloc (.cells #[.int .i64 s2, .int .i64 t2] 38) = W7 at *
        generalize w6.heap.size = gb at *
        go_upto_region 9 with fail
        clear hb0 hb1 y1 y2 yf HBB
        have HXB8 := Lib.hid ((HXB7.out.set 1 (.int .i64 s2)).set 2 (.int .i64 t2))
        have HO8 := Lib.hid (own_apart (own_apart HO7.out hnx 1 (.int .i64 s2)) hnx 2 (.int .i64 t2))
        have HB8 := Lib.hid (belSet (belSet HBW.out ⟨wr.heap.size, 1, none⟩ (.int .i64 s2) hsr) ⟨wr.heap.size, 2, none⟩ (.int .i64 t2) hsr)
        clear HXB7 HO7 HBW HB7
        generalize (W7.setCell ⟨wr.heap.size, 1, none⟩ (.int .i64 s2)).setCell ⟨wr.heap.size, 2, none⟩ (.int .i64 t2) = W8 at *
        cases well with
        | false =>
          go_upto_region 11 with fail
          have HXB9 := HXB8
          have HO9 := HO8
          have HB9 := HB8
          generalize W8 = W9 at *
          have y0 := keep (HXB9.out.cell (j := 0) rfl)
          have y1 := keep (HXB9.out.cell (j := 1) rfl)
          have y2 := keep (HXB9.out.cell (j := 2) rfl)
          have y3 := keep (HXB9.out.cell (j := 3) rfl)
          have hbel : Below W9.heap.size W9 W9 := Below.refl _ _
          by_cases h5 : s2 = 5
          · have hs5 : (s2 == 5) = true := by rw [h5]; rfl
            have HN := Lib.hid (show doL (L.take (k + 1)) s what false round r = N by rw [HNX.out]; unfold not5; dsimp only; rw [hs5]; simp)
            clear h5 HNX
            go_wp2
            go_roundw
            case rel => exact ⟨k + 1, by omega, by push_cast; rfl, by rw [HN.out]; exact HO9.out, HB9.out⟩
            case measure => simp [intOf] <;> omega
          · have hs5 : (s2 == 5) = false := by rw [beq_eq_false_iff_ne]; exact h5
            have HN := Lib.hid (show doL (L.take (k + 1)) s what false round r = N ++ [(⟨x.id, s2, t2, x.last⟩ : ContV)] by rw [HNX.out]; unfold not5; dsimp only; rw [hs5]; rfl)
            clear h5 HNX
            have HOB := Lib.hid (OwnR.alloc HO9.out (.cells #[.string x.id, .int .i64 s2, .int .i64 t2, .int .i64 x.last] 44))
            have HXB := Lib.hid (row_new W9 [.string x.id, .int .i64 s2, .int .i64 t2, .int .i64 x.last] 44 1 4 rfl (by unfold maxLen; omega))
            go_wp2_with (at_builtin; go_loud (refine wpList_app_row rfl _ _ 28 rfl W1.heap.size 44 _ 4 40 Try.underlying28 info_contI rfl (by decide) _ _ _ rfl HOB.out _ 1 1 [.string x.id, .int .i64 s2, .int .i64 t2, .int .i64 x.last] rfl HXB.out (cont_one4 (⟨x.id, s2, t2, x.last⟩ : ContV)) ?c1 ?c2 ?c3 ?_))
            case c1 => simp only [maxLen]; omega
            case c2 => omega
            case c3 => have := HB9.out.size; simp; omega
            intro v' w6 ho' hb' hg'
            have HO2 := Lib.hid (own_snocG (enc := ContV.cells) (x := (⟨x.id, s2, t2, x.last⟩ : ContV)) ho')
            have HB2 := Lib.hid ((belAlloc HB9.out (.cells #[.string x.id, .int .i64 s2, .int .i64 t2, .int .i64 x.last] 44)).trans hb')
            clear ho' hb'
            go_wp2
            go_roundw
            case rel => exact ⟨k + 1, by omega, by push_cast; rfl, by rw [HN.out]; exact HO2.out, HB2.out⟩
            case measure => simp [intOf] <;> omega
        | true =>
          have y3 := HXB8.out.cell (j := 3) rfl
          have yf := HXB8.out.frozen
          go_upto_region 11 with fail
          clear y3 yf
          have HXB9 := Lib.hid (HXB8.out.set 3 (.int .i64 round))
          have HO9 := Lib.hid (own_apart HO8.out hnx 3 (.int .i64 round))
          have HB9 := Lib.hid (belSet HB8.out ⟨wr.heap.size, 3, none⟩ (.int .i64 round) hsr)
          generalize W8.setCell ⟨wr.heap.size, 3, none⟩ (.int .i64 round) = W9 at *
          have y0 := keep (HXB9.out.cell (j := 0) rfl)
          have y1 := keep (HXB9.out.cell (j := 1) rfl)
          have y2 := keep (HXB9.out.cell (j := 2) rfl)
          have y3 := keep (HXB9.out.cell (j := 3) rfl)
          have hbel : Below W9.heap.size W9 W9 := Below.refl _ _
          by_cases h5 : s2 = 5
          · have hs5 : (s2 == 5) = true := by rw [h5]; rfl
            have HN := Lib.hid (show doL (L.take (k + 1)) s what true round r = N by rw [HNX.out]; unfold not5; dsimp only; rw [hs5]; simp)
            clear h5 HNX
            go_wp2
            go_roundw
            case rel => exact ⟨k + 1, by omega, by push_cast; rfl, by rw [HN.out]; exact HO9.out, HB9.out⟩
            case measure => simp [intOf] <;> omega
          · have hs5 : (s2 == 5) = false := by rw [beq_eq_false_iff_ne]; exact h5
            have HN := Lib.hid (show doL (L.take (k + 1)) s what true round r = N ++ [(⟨x.id, s2, t2, round⟩ : ContV)] by rw [HNX.out]; unfold not5; dsimp only; rw [hs5]; rfl)
            clear h5 HNX
            have HOB := Lib.hid (OwnR.alloc HO9.out (.cells #[.string x.id, .int .i64 s2, .int .i64 t2, .int .i64 round] 44))
            have HXB := Lib.hid (row_new W9 [.string x.id, .int .i64 s2, .int .i64 t2, .int .i64 round] 44 1 4 rfl (by unfold maxLen; omega))
            go_wp2_with (at_builtin; go_loud (refine wpList_app_row rfl _ _ 28 rfl W1.heap.size 44 _ 4 40 Try.underlying28 info_contI rfl (by decide) _ _ _ rfl HOB.out _ 1 1 [.string x.id, .int .i64 s2, .int .i64 t2, .int .i64 round] rfl HXB.out (cont_one4 (⟨x.id, s2, t2, round⟩ : ContV)) ?c1 ?c2 ?c3 ?_))
            case c1 => simp only [maxLen]; omega
            case c2 => omega
            case c3 => have := HB9.out.size; simp; omega
            intro v' w6 ho' hb' hg'
            have HO2 := Lib.hid (own_snocG (enc := ContV.cells) (x := (⟨x.id, s2, t2, round⟩ : ContV)) ho')
            have HB2 := Lib.hid ((belAlloc HB9.out (.cells #[.string x.id, .int .i64 s2, .int .i64 t2, .int .i64 round] 44)).trans hb')
            clear ho' hb'
            go_wp2
            go_roundw
            case rel => exact ⟨k + 1, by omega, by push_cast; rfl, by rw [HN.out]; exact HO2.out, HB2.out⟩
            case measure => simp [intOf] <;> omega
    · obtain rfl : k = L.length := by omega
      have hd : decide ((L.length : Int) < (L.length : Int)) = false := decide_eq_false (by omega)
      have hO2 := hO
      rw [List.take_length] at hO2
      clear hO
      obtain ⟨m, hm⟩ : ∃ m, (doL L s what well round r).length = m := ⟨_, rfl⟩
      rw [hm] at hO2
      have HM := Lib.hid hm
      clear hm
      obtain ⟨na, nc, e9, hr9⟩ := rowR_of_own hO2
      subst e9
      have HO2 := Lib.hid hO2
      clear hr9 hO2
      have p2 := (HP.out.later hbr).cell (j := 2) rfl
      have pf := (HP.out.later hbr).frozen
      have hlt1 := HP.out.lt
      have hlt2 := HZ.out.lt
      go_upto_region 14 with fail
      clear p2 pf pp0 pp1 pp2 pp3 zz0 zz1 zz2 zz3 ppF zzF
      have HP6 := Lib.hid ((HP.out.later hbr).set 2 (.slice na m nc))
      have HA6 := Lib.hid ((Apart.refl [w.heap.size, w.heap.size + 1] wr).set ⟨w.heap.size, 2, none⟩ (.slice na m nc) (by simp))
      have HB6 := Lib.hid (belSet (belStep HB.out hbr) ⟨w.heap.size, 2, none⟩ (.slice na m nc) (Nat.le_refl _))
      have HZ6 := Lib.hid ((HZ.out.later hbr).apart ((Apart.refl [w.heap.size] wr).set ⟨w.heap.size, 2, none⟩ (.slice na m nc) (by simp)) (by simp))
      clear hbr
      generalize wr.setCell ⟨w.heap.size, 2, none⟩ (.slice na m nc) = W6 at *
      have p0 := HP6.out.cell (j := 0) rfl
      have p1 := HP6.out.cell (j := 1) rfl
      have p2 := HP6.out.cell (j := 2) rfl
      have p3 := HP6.out.cell (j := 3) rfl
      have z0 := HZ6.out.cell (j := 0) rfl
      have z1 := HZ6.out.cell (j := 1) rfl
      have z2 := HZ6.out.cell (j := 2) rfl
      have z3 := HZ6.out.cell (j := 3) rfl
      have zf := HZ6.out.frozen
      go_wp2
      have hfb := Lib.hid (belSet (belSet (belSet (belSet HB6.out ⟨w.heap.size + 1, 0, none⟩ (.int .i64 r) (Nat.le_succ _)) ⟨w.heap.size + 1, 1, none⟩ (.slice oa O.length oc) (Nat.le_succ _)) ⟨w.heap.size + 1, 2, none⟩ (.slice na m nc) (Nat.le_succ _)) ⟨w.heap.size + 1, 3, none⟩ (.slice ia I.length ic) (Nat.le_succ _))
      have hfa := Lib.hid ((((HA6.out.set ⟨w.heap.size + 1, 0, none⟩ (.int .i64 r) (by simp)).set ⟨w.heap.size + 1, 1, none⟩ (.slice oa O.length oc) (by simp)).set ⟨w.heap.size + 1, 2, none⟩ (.slice na m nc) (by simp)).set ⟨w.heap.size + 1, 3, none⟩ (.slice ia I.length ic) (by simp))
      refine r16do_ret _ (w.heap.size + 1) _ r oa _ oc na m nc ia _ ic _ rfl ((((HZ6.out.set 0 (.int .i64 r)).set 1 (.slice oa O.length oc)).set 2 (.slice na m nc)).set 3 (.slice ia I.length ic)) ⟨_, rfl, ?_, hfb.out⟩
      refine ⟨oa, oc, na, nc, ia, ic, by rw [HM.out], HRO.out.later hfb.out, ?_, HRI.out.later hfb.out, HNF.out.1, notin_own HO2.out (fun b hb => Nat.lt_of_lt_of_le (HFF.out b hb) HB.out.size), HNF.out.2.2⟩
      have h9 := own_row (own_apartF HO2.out hfa.out (fun b hb => by simp only [List.mem_cons, List.not_mem_nil, or_false] at hb; omega))
      rw [HM.out]; exact h9
end Go.Proofs.Ytcnjcldfbidkmaa
