
/- The reference of stage 16: Create. -/
import Derived.Test.YtcnjcldfbidkmaaWr4
namespace Go.Proofs.Ytcnjcldfbidkmaa
open Go.RowKit Go.Sort
set_option linter.unusedVariables false
set_option linter.unusedSimpArgs false
theorem partsC_less {L : List ContV} (hri : RisesC L) {s : ByteArray} {k : Nat} {x : ContV} (hx : L[k]? = some x) : Op.bytesLess x.id.toList s.toList = decide (k < placeC L s) := by
  have hp := partsC_of hri s
  rw [bytesLess_iff]
  by_cases h : k < placeC L s
  · rw [decide_eq_true h, decide_eq_true (hp.lo k x h hx)]
  · rw [decide_eq_false h, decide_eq_false (hp.hi k x (by omega) hx)]
theorem r16create_ret (W : World) (R : Nat) (tm : Array Value) (r : Int) (oa : Option Addr) (on oc : Nat) (ba : Option Addr) (bn bc : Nat) (ia : Option Addr) (inn ic : Nat) (c : Int) (Q : Ending → World → Prop) (h0 : tm.getD 6 undef = .pointer (some ⟨R, 0, none⟩)) (h1 : tm.getD 7 undef = .int .i64 c) (hb : Blk W R [.int .i64 r, .slice oa on oc, .slice ba bn bc, .slice ia inn ic] 31) (hR : Q (.returned (.tuple #[.agg #[.int .i64 r, .slice oa on oc, .slice ba bn bc, .slice ia inn ic], .int .i64 c])) W) :
    bodyPost Try.prog Try.f59 Q Exit.ret { tmps := tm, defers := [] } W := by
  have z0 := hb.cell (j := 0) rfl
  have z1 := hb.cell (j := 1) rfl
  have z2 := hb.cell (j := 2) rfl
  have z3 := hb.cell (j := 3) rfl
  refine bodyPost_ret (v := .tuple #[.agg #[.int .i64 r, .slice oa on oc, .slice ba bn bc, .slice ia inn ic], .int .i64 c]) ?_ rfl hR
  simp only [Array.getD_eq_getD_getElem?] at h0 h1
  simp [results, Try.results59, go_sem, h0, h1, z0, z1, z2, z3]
set_option maxRecDepth 100000 in
set_option maxHeartbeats 64000000 in
theorem r16_Create (s : ByteArray) (round : Int) (F : List Nat) (v : Value) (m : WorldV) (w : World) (hv : RIs F w v m) (hF : ∀ b ∈ F, b < w.heap.size) (hri : RisesC m.boxes) (hn : m.boxes.length ≤ 100000) :
    Calls Try.prog 59 #[v, .string s, .int .i64 round] w fun e w' => ∃ v', e = .returned (.tuple #[v', .int .i64 (createE m.boxes s)]) ∧ RIs F w' v' { m with boxes := createC m.boxes s round } ∧ Below w.heap.size w w' := by
  have CP := Lib.hid (fun ba bc u (hr : Row u ba m.boxes.length bc 4 (m.boxes.flatMap ContV.cells)) => r16_Place ba m.boxes.length bc m.boxes s u rfl hr)
  rw [placeRC_eq hri] at CP
  have HRC := Lib.hid hri
  have hn9 := hn
  clear hri hn
  obtain ⟨r, O, L, I⟩ := m
  obtain ⟨oa, oc, ba, bc, ia, ic, rfl, hO, hL, hI, hN⟩ := hv
  dsimp only at hO hL hI hN ⊢
  have HNF := Lib.hid hN
  have HFF := Lib.hid hF
  clear hN hF
  have hbo : O.length ≤ oc ∧ oc ≤ 9223372036854775807 := by obtain ⟨_, h1, h2, _⟩ := hO; unfold maxLen at h2; exact ⟨h1, h2⟩
  obtain ⟨hbo1, hbo2⟩ := hbo
  have hbb : L.length ≤ bc ∧ bc ≤ 9223372036854775807 := by obtain ⟨_, h1, h2, _⟩ := hL; unfold maxLen at h2; exact ⟨h1, h2⟩
  obtain ⟨hbb1, hbb2⟩ := hbb
  have hbi : I.length ≤ ic ∧ ic ≤ 9223372036854775807 := by obtain ⟨_, h1, h2, _⟩ := hI; unfold maxLen at h2; exact ⟨h1, h2⟩
  obtain ⟨hbi1, hbi2⟩ := hbi
  have HRO := Lib.hid hO
  have HRL := Lib.hid hL
  have HRI := Lib.hid hI
  clear hO hL hI
  have hw : Below w.heap.size w w := Below.refl _ _
  have hbel := hw
  dsimp only at CP HRC hn9
  obtain ⟨th, hth⟩ : ∃ t, thereC L s = t := ⟨_, rfl⟩
  obtain ⟨p, hp⟩ : ∃ p, placeC L s = p := ⟨_, rfl⟩
  rw [hth, hp] at CP
  have hple : p ≤ L.length := by have h := (partsC_of HRC.out s).le; rwa [hp] at h
  have HTH := Lib.hid hth
  have HPL := Lib.hid hp
  clear hth hp
  go_enter Try.func59, Try.ntmps59
  go_upto_region 1 with fail
  have pp0 : ((w.alloc (.cells #[.int .i64 r, .slice oa O.length oc, .slice ba L.length bc, .slice ia I.length ic] 31)).alloc (.cells #[.int .i64 0, .slice none 0 0, .slice none 0 0, .slice none 0 0] 31)).cell? ⟨w.heap.size, 0, none⟩ = some (.int .i64 r) := by first | (simp; done) | (rw [World.cell?_alloc_at _ _ _ _ (by simp)]; rfl) | (rw [World.cell?_alloc_past _ _ _ (by simp <;> omega), World.cell?_alloc_at _ _ _ _ (by simp)]; rfl) | (rw [World.cell?_alloc_past _ _ _ (by simp <;> omega), World.cell?_alloc_past _ _ _ (by simp <;> omega), World.cell?_alloc_at _ _ _ _ (by simp)]; rfl)
  have pp1 : ((w.alloc (.cells #[.int .i64 r, .slice oa O.length oc, .slice ba L.length bc, .slice ia I.length ic] 31)).alloc (.cells #[.int .i64 0, .slice none 0 0, .slice none 0 0, .slice none 0 0] 31)).cell? ⟨w.heap.size, 1, none⟩ = some (.slice oa O.length oc) := by first | (simp; done) | (rw [World.cell?_alloc_at _ _ _ _ (by simp)]; rfl) | (rw [World.cell?_alloc_past _ _ _ (by simp <;> omega), World.cell?_alloc_at _ _ _ _ (by simp)]; rfl) | (rw [World.cell?_alloc_past _ _ _ (by simp <;> omega), World.cell?_alloc_past _ _ _ (by simp <;> omega), World.cell?_alloc_at _ _ _ _ (by simp)]; rfl)
  have pp2 : ((w.alloc (.cells #[.int .i64 r, .slice oa O.length oc, .slice ba L.length bc, .slice ia I.length ic] 31)).alloc (.cells #[.int .i64 0, .slice none 0 0, .slice none 0 0, .slice none 0 0] 31)).cell? ⟨w.heap.size, 2, none⟩ = some (.slice ba L.length bc) := by first | (simp; done) | (rw [World.cell?_alloc_at _ _ _ _ (by simp)]; rfl) | (rw [World.cell?_alloc_past _ _ _ (by simp <;> omega), World.cell?_alloc_at _ _ _ _ (by simp)]; rfl) | (rw [World.cell?_alloc_past _ _ _ (by simp <;> omega), World.cell?_alloc_past _ _ _ (by simp <;> omega), World.cell?_alloc_at _ _ _ _ (by simp)]; rfl)
  have pp3 : ((w.alloc (.cells #[.int .i64 r, .slice oa O.length oc, .slice ba L.length bc, .slice ia I.length ic] 31)).alloc (.cells #[.int .i64 0, .slice none 0 0, .slice none 0 0, .slice none 0 0] 31)).cell? ⟨w.heap.size, 3, none⟩ = some (.slice ia I.length ic) := by first | (simp; done) | (rw [World.cell?_alloc_at _ _ _ _ (by simp)]; rfl) | (rw [World.cell?_alloc_past _ _ _ (by simp <;> omega), World.cell?_alloc_at _ _ _ _ (by simp)]; rfl) | (rw [World.cell?_alloc_past _ _ _ (by simp <;> omega), World.cell?_alloc_past _ _ _ (by simp <;> omega), World.cell?_alloc_at _ _ _ _ (by simp)]; rfl)
  have zz0 : ((w.alloc (.cells #[.int .i64 r, .slice oa O.length oc, .slice ba L.length bc, .slice ia I.length ic] 31)).alloc (.cells #[.int .i64 0, .slice none 0 0, .slice none 0 0, .slice none 0 0] 31)).cell? ⟨w.heap.size + 1, 0, none⟩ = some (.int .i64 0) := by first | (simp; done) | (rw [World.cell?_alloc_at _ _ _ _ (by simp)]; rfl) | (rw [World.cell?_alloc_past _ _ _ (by simp <;> omega), World.cell?_alloc_at _ _ _ _ (by simp)]; rfl) | (rw [World.cell?_alloc_past _ _ _ (by simp <;> omega), World.cell?_alloc_past _ _ _ (by simp <;> omega), World.cell?_alloc_at _ _ _ _ (by simp)]; rfl)
  have zz1 : ((w.alloc (.cells #[.int .i64 r, .slice oa O.length oc, .slice ba L.length bc, .slice ia I.length ic] 31)).alloc (.cells #[.int .i64 0, .slice none 0 0, .slice none 0 0, .slice none 0 0] 31)).cell? ⟨w.heap.size + 1, 1, none⟩ = some (.slice none 0 0) := by first | (simp; done) | (rw [World.cell?_alloc_at _ _ _ _ (by simp)]; rfl) | (rw [World.cell?_alloc_past _ _ _ (by simp <;> omega), World.cell?_alloc_at _ _ _ _ (by simp)]; rfl) | (rw [World.cell?_alloc_past _ _ _ (by simp <;> omega), World.cell?_alloc_past _ _ _ (by simp <;> omega), World.cell?_alloc_at _ _ _ _ (by simp)]; rfl)
  have zz2 : ((w.alloc (.cells #[.int .i64 r, .slice oa O.length oc, .slice ba L.length bc, .slice ia I.length ic] 31)).alloc (.cells #[.int .i64 0, .slice none 0 0, .slice none 0 0, .slice none 0 0] 31)).cell? ⟨w.heap.size + 1, 2, none⟩ = some (.slice none 0 0) := by first | (simp; done) | (rw [World.cell?_alloc_at _ _ _ _ (by simp)]; rfl) | (rw [World.cell?_alloc_past _ _ _ (by simp <;> omega), World.cell?_alloc_at _ _ _ _ (by simp)]; rfl) | (rw [World.cell?_alloc_past _ _ _ (by simp <;> omega), World.cell?_alloc_past _ _ _ (by simp <;> omega), World.cell?_alloc_at _ _ _ _ (by simp)]; rfl)
  have zz3 : ((w.alloc (.cells #[.int .i64 r, .slice oa O.length oc, .slice ba L.length bc, .slice ia I.length ic] 31)).alloc (.cells #[.int .i64 0, .slice none 0 0, .slice none 0 0, .slice none 0 0] 31)).cell? ⟨w.heap.size + 1, 3, none⟩ = some (.slice none 0 0) := by first | (simp; done) | (rw [World.cell?_alloc_at _ _ _ _ (by simp)]; rfl) | (rw [World.cell?_alloc_past _ _ _ (by simp <;> omega), World.cell?_alloc_at _ _ _ _ (by simp)]; rfl) | (rw [World.cell?_alloc_past _ _ _ (by simp <;> omega), World.cell?_alloc_past _ _ _ (by simp <;> omega), World.cell?_alloc_at _ _ _ _ (by simp)]; rfl)
  have hb2 := (by repeat (first | exact hbel | refine belAlloc ?_ _ | refine belDrew ?_ | refine belSet ?_ _ _ (by simp)) : Below w.heap.size w ((w.alloc (.cells #[.int .i64 r, .slice oa O.length oc, .slice ba L.length bc, .slice ia I.length ic] 31)).alloc (.cells #[.int .i64 0, .slice none 0 0, .slice none 0 0, .slice none 0 0] 31)))
  replace hw := belStep hw hb2
  have ppB : Blk ((w.alloc (.cells #[.int .i64 r, .slice oa O.length oc, .slice ba L.length bc, .slice ia I.length ic] 31)).alloc (.cells #[.int .i64 0, .slice none 0 0, .slice none 0 0, .slice none 0 0] 31)) (w.heap.size) [.int .i64 r, .slice oa O.length oc, .slice ba L.length bc, .slice ia I.length ic] 31 := (Blk.at (by simp) : Blk (w.alloc (.cells #[.int .i64 r, .slice oa O.length oc, .slice ba L.length bc, .slice ia I.length ic] 31)) (w.heap.size) [.int .i64 r, .slice oa O.length oc, .slice ba L.length bc, .slice ia I.length ic] 31).later (by repeat (first | exact Below.refl _ _ | refine belAlloc ?_ _))
  have ppF := Blk.keepF ppB
  replace ppB := Blk.keepB ppB
  have zzB : Blk ((w.alloc (.cells #[.int .i64 r, .slice oa O.length oc, .slice ba L.length bc, .slice ia I.length ic] 31)).alloc (.cells #[.int .i64 0, .slice none 0 0, .slice none 0 0, .slice none 0 0] 31)) (w.heap.size + 1) [.int .i64 0, .slice none 0 0, .slice none 0 0, .slice none 0 0] 31 := (Blk.at (by simp) : Blk ((w.alloc (.cells #[.int .i64 r, .slice oa O.length oc, .slice ba L.length bc, .slice ia I.length ic] 31)).alloc (.cells #[.int .i64 0, .slice none 0 0, .slice none 0 0, .slice none 0 0] 31)) (w.heap.size + 1) [.int .i64 0, .slice none 0 0, .slice none 0 0, .slice none 0 0] 31).later (by repeat (first | exact Below.refl _ _ | refine belAlloc ?_ _))
  have zzF := Blk.keepF zzB
  replace zzB := Blk.keepB zzB
  clear hb2 hbel
  generalize (w.alloc (.cells #[.int .i64 r, .slice oa O.length oc, .slice ba L.length bc, .slice ia I.length ic] 31)).alloc (.cells #[.int .i64 0, .slice none 0 0, .slice none 0 0, .slice none 0 0] 31) = W1 at *
  replace pp0 := keep pp0
  replace pp1 := keep pp1
  replace pp2 := keep pp2
  replace pp3 := keep pp3
  replace zz0 := keep zz0
  replace zz1 := keep zz1
  replace zz2 := keep zz2
  replace zz3 := keep zz3
  have hbel : Below W1.heap.size W1 W1 := Below.refl _ _
  skip
  have HP := Lib.hid (ppB W1 (Below.refl _ _))
  have HZ := Lib.hid (zzB W1 (Below.refl _ _))
  have HB := Lib.hid hw
  clear hw ppB zzB
  cases th with
  | false =>
    have HGT := Lib.hid (fun (k : Nat) (x : ContV) (hx : L[k]? = some x) => HPL.out ▸ partsC_less HRC.out (s := s) hx)
    have HE := Lib.hid (show createE L s = 0 ∧ createC L s round = L.take p ++ (⟨s, 1, 0, round⟩ : ContV) :: L.drop p by unfold createE createC; rw [HTH.out, HPL.out]; exact ⟨rfl, rfl⟩)
    simp only [Bool.false_eq_true, if_false] at CP
    go_upto_region 3 with (go_at_call 21; (with_reducible refine (CP.out ba bc _ (HRL.out.later (belStep HB.out hbel))).mono ?_); rintro e w2 ⟨rfl, hb_⟩; have hbz := belStep hbel hb_; clear hbel; have hbel := hbz; clear hbz hb_)
    have hbW2 := hbel
    generalize w2 = W2 at *
    go_wp2
    go_loopw [8, 9, 10] (fun v dn i wr => ∃ k : Nat, k ≤ L.length ∧ i = .int .i64 k ∧ dn = .bool (decide (p < k)) ∧ OwnR wr W1.heap.size 44 4 v (oG L (⟨s, 1, 0, round⟩ : ContV) p k).length ((oG L (⟨s, 1, 0, round⟩ : ContV) p k).flatMap ContV.cells) ∧ Below W1.heap.size W1 wr) (fun _ _ i _ => L.length - (intOf i).toNat)
    case atStart => exact ⟨0, Nat.zero_le _, rfl, by rw [show decide (p < 0) = false from decide_eq_false (by omega)], OwnR.nil _ _ _ _, hbW2⟩
    case round =>
      clear hbW2 hbel
      obtain ⟨k, hk, rfl, rfl, hO, hbr⟩ := hrel
      by_cases hlt : k < L.length
      · have hd : decide ((k : Int) < (L.length : Int)) = true := decide_eq_true (by omega)
        have hki : (k : Int) < (L.length : Int) := by omega
        have hk0 : (0 : Int) ≤ (k : Int) := by omega
        replace pp2 := keepOn pp2 hbr
        clear pp0 pp1 pp3 zz0 zz1 zz2 zz3 ppF zzF
        obtain ⟨x, hx⟩ : ∃ x, L[k]? = some x := ⟨L[k], List.getElem?_eq_getElem hlt⟩
        obtain ⟨bx, ox, ec, _, hcc⟩ := (HRL.out.later (belStep HB.out hbr)).elem ContV.cells_len (by omega) hx
        subst ec
        have c0 := keep (hcc 0 _ rfl)
        have c1 := keep (hcc 1 _ rfl)
        have c2 := keep (hcc 2 _ rfl)
        have c3 := keep (hcc 3 _ rfl)
        rw [Nat.add_zero] at c0
        have hgt := HGT.out k x hx
        have heq := thereC_not HTH.out hx
        have HX := Lib.hid hx
        clear hx hcc
        have HBR := Lib.hid hbr
        clear hbr
        have hbel : Below wr.heap.size wr wr := Below.refl _ _
        have hlen := oG_len L (⟨s, 1, 0, round⟩ : ContV) p k
        obtain ⟨N, hN⟩ : ∃ N, oG L (⟨s, 1, 0, round⟩ : ContV) p k = N := ⟨_, rfl⟩
        rw [hN] at hO hlen
        have HNN := Lib.hid hN
        have HO := Lib.hid hO
        clear hN hO
        have key : p < k ∨ k < p ∨ k = p := by omega
        rcases key with h9 | h9 | h9
        · have hdn : decide (p < k) = true := decide_eq_true h9
          have hdk : decide (p < k + 1) = true := decide_eq_true (by omega)
          rw [show decide (k < p) = false from decide_eq_false (by omega)] at hgt
          have HN := Lib.hid (oG_done (x := (⟨s, 1, 0, round⟩ : ContV)) h9 HX.out)
          rw [HNN.out] at HN
          rw [hdn]
          clear hdn HNN
          have HOA := Lib.hid (OwnR.alloc HO.out (.cells #[.string x.id, .int .i64 x.state, .int .i64 x.tries, .int .i64 x.last] 44))
          have HXA := Lib.hid (row_new wr [.string x.id, .int .i64 x.state, .int .i64 x.tries, .int .i64 x.last] 44 1 4 rfl (by unfold maxLen; omega))
          clear HO
          go_wp2_with (at_builtin; go_loud (refine wpList_app_row rfl _ _ 28 rfl W1.heap.size 44 _ 4 40 Try.underlying28 info_contI rfl (by decide) _ _ _ rfl HOA.out _ 1 1 [.string x.id, .int .i64 x.state, .int .i64 x.tries, .int .i64 x.last] rfl HXA.out (cont_one4 x) ?c1 ?c2 ?c3 ?_))
          case c1 => simp only [maxLen]; omega
          case c2 => omega
          case c3 => have := HBR.out.size; simp; omega
          intro v' w6 ho' hb' hg'
          have HO2 := Lib.hid (own_snocG (enc := ContV.cells) (x := x) ho')
          have HB2 := Lib.hid ((belAlloc HBR.out (.cells #[.string x.id, .int .i64 x.state, .int .i64 x.tries, .int .i64 x.last] 44)).trans hb')
          clear ho' hb'
          go_wp2
          go_roundw
          case rel => exact ⟨k + 1, by omega, by push_cast; rfl, by rw [hdk], by rw [HN.out]; exact HO2.out, HB2.out⟩
          case measure => simp [intOf] <;> omega
        · have hdn : decide (p < k) = false := decide_eq_false (by omega)
          have hdk : decide (p < k + 1) = false := decide_eq_false (by omega)
          rw [show decide (k < p) = true from decide_eq_true (by omega)] at hgt
          have HN := Lib.hid (oG_not (x := (⟨s, 1, 0, round⟩ : ContV)) h9 HX.out)
          rw [HNN.out] at HN
          rw [hdn]
          clear hdn HNN
          have HOA := Lib.hid (OwnR.alloc HO.out (.cells #[.string x.id, .int .i64 x.state, .int .i64 x.tries, .int .i64 x.last] 44))
          have HXA := Lib.hid (row_new wr [.string x.id, .int .i64 x.state, .int .i64 x.tries, .int .i64 x.last] 44 1 4 rfl (by unfold maxLen; omega))
          clear HO
          go_wp2_with (at_builtin; go_loud (refine wpList_app_row rfl _ _ 28 rfl W1.heap.size 44 _ 4 40 Try.underlying28 info_contI rfl (by decide) _ _ _ rfl HOA.out _ 1 1 [.string x.id, .int .i64 x.state, .int .i64 x.tries, .int .i64 x.last] rfl HXA.out (cont_one4 x) ?c1 ?c2 ?c3 ?_))
          case c1 => simp only [maxLen]; omega
          case c2 => omega
          case c3 => have := HBR.out.size; simp; omega
          intro v' w6 ho' hb' hg'
          have HO2 := Lib.hid (own_snocG (enc := ContV.cells) (x := x) ho')
          have HB2 := Lib.hid ((belAlloc HBR.out (.cells #[.string x.id, .int .i64 x.state, .int .i64 x.tries, .int .i64 x.last] 44)).trans hb')
          clear ho' hb'
          go_wp2
          go_roundw
          case rel => exact ⟨k + 1, by omega, by push_cast; rfl, by rw [hdk], by rw [HN.out]; exact HO2.out, HB2.out⟩
          case measure => simp [intOf] <;> omega
        · subst h9
          have hdn : decide (k < k) = false := decide_eq_false (by omega)
          have hdk : decide (k < k + 1) = true := decide_eq_true (by omega)
          rw [show decide (k < k) = false from hdn] at hgt
          have HN := Lib.hid (oG_here (x := (⟨s, 1, 0, round⟩ : ContV)) HX.out)
          rw [HNN.out] at HN
          rw [hdn]
          clear hdn HNN
          have HON := Lib.hid (OwnR.alloc HO.out (.cells #[.string s, .int .i64 1, .int .i64 0, .int .i64 round] 44))
          have HXN := Lib.hid (row_new wr [.string s, .int .i64 1, .int .i64 0, .int .i64 round] 44 1 4 rfl (by unfold maxLen; omega))
          clear HO
          go_upto_region 10 with (at_builtin; go_loud (refine wpList_app_row rfl _ _ 28 rfl W1.heap.size 44 _ 4 40 Try.underlying28 info_contI rfl (by decide) _ _ _ rfl HON.out _ 1 1 [.string s, .int .i64 1, .int .i64 0, .int .i64 round] rfl HXN.out (cont_one4 (⟨s, 1, 0, round⟩ : ContV)) ?c1 ?c2 ?c3 ?_))
          case c1 => simp only [maxLen]; omega
          case c2 => omega
          case c3 => have := HBR.out.size; simp; omega
          intro v' w6 ho' hb' hg'
          have HO2 := Lib.hid (own_snocG (enc := ContV.cells) (x := (⟨s, 1, 0, round⟩ : ContV)) ho')
          have HB2 := Lib.hid ((belAlloc HBR.out (.cells #[.string s, .int .i64 1, .int .i64 0, .int .i64 round] 44)).trans hb')
          have hL6 := HRL.out.later (belStep HB.out HB2.out)
          have hP6 := HP.out.later HB2.out
          clear ho' hb'
          clear c0 c1 c2 c3 pp2 hbel
          obtain ⟨by_, oy, ey, _, hcy⟩ := hL6.elem ContV.cells_len (by omega) HX.out
          simp only [Option.some.injEq, Addr.mk.injEq, and_true] at ey
          obtain ⟨rfl, rfl⟩ := ey
          have c0 := keep (hcy 0 _ rfl)
          have c1 := keep (hcy 1 _ rfl)
          have c2 := keep (hcy 2 _ rfl)
          have c3 := keep (hcy 3 _ rfl)
          rw [Nat.add_zero] at c0
          have pp2 := keep (hP6.cell (j := 2) rfl)
          have hbel : Below w6.heap.size w6 w6 := Below.refl _ _
          clear hcy hL6 hP6
          obtain ⟨N2, hN2⟩ : ∃ M, N ++ [(⟨s, 1, 0, round⟩ : ContV)] = M := ⟨_, rfl⟩
          have hN2l : N2.length ≤ L.length + 2 := by rw [← hN2, List.length_append]; simp; omega
          rw [hN2] at HO2 HN
          clear hN2
          have HOX := Lib.hid (OwnR.alloc HO2.out (.cells #[.string x.id, .int .i64 x.state, .int .i64 x.tries, .int .i64 x.last] 44))
          have HXX := Lib.hid (row_new w6 [.string x.id, .int .i64 x.state, .int .i64 x.tries, .int .i64 x.last] 44 1 4 rfl (by unfold maxLen; omega))
          go_wp2_with (at_builtin; go_loud (refine wpList_app_row rfl _ _ 28 rfl W1.heap.size 44 _ 4 40 Try.underlying28 info_contI rfl (by decide) _ _ _ rfl HOX.out _ 1 1 [.string x.id, .int .i64 x.state, .int .i64 x.tries, .int .i64 x.last] rfl HXX.out (cont_one4 x) ?c1 ?c2 ?c3 ?_))
          case c1 => simp only [maxLen]; omega
          case c2 => omega
          case c3 => have := HB2.out.size; simp; omega
          intro v' w9 ho' hb' hg'
          have HO9 := Lib.hid (own_snocG (enc := ContV.cells) (x := x) ho')
          have HB9 := Lib.hid ((belAlloc HB2.out (.cells #[.string x.id, .int .i64 x.state, .int .i64 x.tries, .int .i64 x.last] 44)).trans hb')
          clear ho' hb'
          go_wp2
          go_roundw
          case rel => exact ⟨k + 1, by omega, by push_cast; rfl, by rw [hdk], by rw [HN.out]; exact HO9.out, HB9.out⟩
          case measure => simp [intOf] <;> omega
      · obtain rfl : k = L.length := by omega
        have hd : decide ((L.length : Int) < (L.length : Int)) = false := decide_eq_false (by omega)
        by_cases h9 : p < L.length
        · have hdn : decide (p < L.length) = true := decide_eq_true h9
          rw [hdn]
          rw [oG_end h9] at hO
          obtain ⟨M, hM⟩ : ∃ M, L.take p ++ (⟨s, 1, 0, round⟩ : ContV) :: L.drop p = M := ⟨_, rfl⟩
          rw [hM] at hO
          have HNE := Lib.hid hM
          obtain ⟨n, hn⟩ : ∃ n, M.length = n := ⟨_, rfl⟩
          rw [hn] at hO
          have HNL := Lib.hid hn
          clear hdn hM hn
          go_upto_region 14 with fail
          clear pp0 pp1 pp2 pp3 zz0 zz1 zz2 zz3 ppF zzF
          obtain ⟨na, nc, e9, hr9⟩ := rowR_of_own hO
          subst e9
          have HOE := Lib.hid hO
          clear hr9
          have p2 := (HP.out.later hbr).cell (j := 2) rfl
          have pf := (HP.out.later hbr).frozen
          have hlt1 := HP.out.lt
          have hlt2 := HZ.out.lt
          go_upto_region 15 with fail
          clear p2 pf
          have HP6 := Lib.hid ((HP.out.later hbr).set 2 (.slice na n nc))
          have HA6 := Lib.hid ((Apart.refl [w.heap.size, w.heap.size + 1] wr).set ⟨w.heap.size, 2, none⟩ (.slice na n nc) (by simp))
          have HB6 := Lib.hid (belSet (belStep HB.out hbr) ⟨w.heap.size, 2, none⟩ (.slice na n nc) (Nat.le_refl _))
          have HZ6 := Lib.hid ((HZ.out.later hbr).apart ((Apart.refl [w.heap.size] wr).set ⟨w.heap.size, 2, none⟩ (.slice na n nc) (by simp)) (by simp))
          generalize wr.setCell ⟨w.heap.size, 2, none⟩ (.slice na n nc) = W6 at *
          have p0 := HP6.out.cell (j := 0) rfl
          have p1 := HP6.out.cell (j := 1) rfl
          have p2 := HP6.out.cell (j := 2) rfl
          have p3 := HP6.out.cell (j := 3) rfl
          have z0 := HZ6.out.cell (j := 0) rfl
          have z1 := HZ6.out.cell (j := 1) rfl
          have z2 := HZ6.out.cell (j := 2) rfl
          have z3 := HZ6.out.cell (j := 3) rfl
          have zf := HZ6.out.frozen
          go_wp2
          have hfb := Lib.hid (belSet (belSet (belSet (belSet HB6.out ⟨w.heap.size + 1, 0, none⟩ (.int .i64 r) (Nat.le_succ _)) ⟨w.heap.size + 1, 1, none⟩ (.slice oa O.length oc) (Nat.le_succ _)) ⟨w.heap.size + 1, 2, none⟩ (.slice na n nc) (Nat.le_succ _)) ⟨w.heap.size + 1, 3, none⟩ (.slice ia I.length ic) (Nat.le_succ _))
          have hfa := Lib.hid ((((HA6.out.set ⟨w.heap.size + 1, 0, none⟩ (.int .i64 r) (by simp)).set ⟨w.heap.size + 1, 1, none⟩ (.slice oa O.length oc) (by simp)).set ⟨w.heap.size + 1, 2, none⟩ (.slice na n nc) (by simp)).set ⟨w.heap.size + 1, 3, none⟩ (.slice ia I.length ic) (by simp))
          refine r16create_ret _ (w.heap.size + 1) _ r oa _ oc na n nc ia _ ic 0 _ rfl rfl ((((HZ6.out.set 0 (.int .i64 r)).set 1 (.slice oa O.length oc)).set 2 (.slice na n nc)).set 3 (.slice ia I.length ic)) ⟨_, by rw [HE.out.1], ?_, hfb.out⟩
          rw [HE.out.2, HNE.out]
          refine ⟨oa, oc, na, nc, ia, ic, by rw [HNL.out], HRO.out.later hfb.out, ?_, HRI.out.later hfb.out, HNF.out.1, notin_own HOE.out (fun b hb => Nat.lt_of_lt_of_le (HFF.out b hb) HB.out.size), HNF.out.2.2⟩
          have h9 := own_row (own_apartF HOE.out hfa.out (fun b hb => by simp only [List.mem_cons, List.not_mem_nil, or_false] at hb; omega))
          rw [HNL.out]; exact h9
        · have hdn : decide (p < L.length) = false := decide_eq_false h9
          rw [hdn]
          have HN := Lib.hid (oG_full (x := (⟨s, 1, 0, round⟩ : ContV)) (show p = L.length by omega))
          have hlen := oG_len L (⟨s, 1, 0, round⟩ : ContV) p L.length
          obtain ⟨N, hN⟩ : ∃ N, oG L (⟨s, 1, 0, round⟩ : ContV) p L.length = N := ⟨_, rfl⟩
          rw [hN] at hO HN hlen
          clear hdn hN
          have HBR := Lib.hid hbr
          have HOE := Lib.hid (OwnR.alloc hO (.cells #[.string s, .int .i64 1, .int .i64 0, .int .i64 round] 44))
          have HXE := Lib.hid (row_new wr [.string s, .int .i64 1, .int .i64 0, .int .i64 round] 44 1 4 rfl (by unfold maxLen; omega))
          clear hO
          go_upto_region 14 with (at_builtin; go_loud (refine wpList_app_row rfl _ _ 28 rfl W1.heap.size 44 _ 4 40 Try.underlying28 info_contI rfl (by decide) _ _ _ rfl HOE.out _ 1 1 [.string s, .int .i64 1, .int .i64 0, .int .i64 round] rfl HXE.out (cont_one4 (⟨s, 1, 0, round⟩ : ContV)) ?c1 ?c2 ?c3 ?_))
          case c1 => simp only [maxLen]; omega
          case c2 => omega
          case c3 => have := HBR.out.size; simp; omega
          intro v' w6 ho' hb' hg'
          have HO2 := Lib.hid (own_snocG (enc := ContV.cells) (x := (⟨s, 1, 0, round⟩ : ContV)) ho')
          have HB2 := Lib.hid ((belAlloc HBR.out (.cells #[.string s, .int .i64 1, .int .i64 0, .int .i64 round] 44)).trans hb')
          clear ho' hb'
          rw [HN.out] at HO2
          have hO6 := HO2.out
          obtain ⟨M, hM⟩ : ∃ M, L.take p ++ (⟨s, 1, 0, round⟩ : ContV) :: L.drop p = M := ⟨_, rfl⟩
          rw [hM] at hO6
          have HNE := Lib.hid hM
          obtain ⟨n, hn⟩ : ∃ n, M.length = n := ⟨_, rfl⟩
          rw [hn] at hO6
          have HNL := Lib.hid hn
          clear hM hn HO2 HN hbr
          clear pp0 pp1 pp2 pp3 zz0 zz1 zz2 zz3 ppF zzF
          have hb6 := HB2.out
          clear HB2
          obtain ⟨na, nc, e9, hr9⟩ := rowR_of_own hO6
          subst e9
          have HOE := Lib.hid hO6
          clear hr9
          have p2 := (HP.out.later hb6).cell (j := 2) rfl
          have pf := (HP.out.later hb6).frozen
          have hlt1 := HP.out.lt
          have hlt2 := HZ.out.lt
          go_upto_region 15 with fail
          clear p2 pf
          have HP6 := Lib.hid ((HP.out.later hb6).set 2 (.slice na n nc))
          have HA6 := Lib.hid ((Apart.refl [w.heap.size, w.heap.size + 1] w6).set ⟨w.heap.size, 2, none⟩ (.slice na n nc) (by simp))
          have HB6 := Lib.hid (belSet (belStep HB.out hb6) ⟨w.heap.size, 2, none⟩ (.slice na n nc) (Nat.le_refl _))
          have HZ6 := Lib.hid ((HZ.out.later hb6).apart ((Apart.refl [w.heap.size] w6).set ⟨w.heap.size, 2, none⟩ (.slice na n nc) (by simp)) (by simp))
          generalize w6.setCell ⟨w.heap.size, 2, none⟩ (.slice na n nc) = W6 at *
          have p0 := HP6.out.cell (j := 0) rfl
          have p1 := HP6.out.cell (j := 1) rfl
          have p2 := HP6.out.cell (j := 2) rfl
          have p3 := HP6.out.cell (j := 3) rfl
          have z0 := HZ6.out.cell (j := 0) rfl
          have z1 := HZ6.out.cell (j := 1) rfl
          have z2 := HZ6.out.cell (j := 2) rfl
          have z3 := HZ6.out.cell (j := 3) rfl
          have zf := HZ6.out.frozen
          go_wp2
          have hfb := Lib.hid (belSet (belSet (belSet (belSet HB6.out ⟨w.heap.size + 1, 0, none⟩ (.int .i64 r) (Nat.le_succ _)) ⟨w.heap.size + 1, 1, none⟩ (.slice oa O.length oc) (Nat.le_succ _)) ⟨w.heap.size + 1, 2, none⟩ (.slice na n nc) (Nat.le_succ _)) ⟨w.heap.size + 1, 3, none⟩ (.slice ia I.length ic) (Nat.le_succ _))
          have hfa := Lib.hid ((((HA6.out.set ⟨w.heap.size + 1, 0, none⟩ (.int .i64 r) (by simp)).set ⟨w.heap.size + 1, 1, none⟩ (.slice oa O.length oc) (by simp)).set ⟨w.heap.size + 1, 2, none⟩ (.slice na n nc) (by simp)).set ⟨w.heap.size + 1, 3, none⟩ (.slice ia I.length ic) (by simp))
          refine r16create_ret _ (w.heap.size + 1) _ r oa _ oc na n nc ia _ ic 0 _ rfl rfl ((((HZ6.out.set 0 (.int .i64 r)).set 1 (.slice oa O.length oc)).set 2 (.slice na n nc)).set 3 (.slice ia I.length ic)) ⟨_, by rw [HE.out.1], ?_, hfb.out⟩
          rw [HE.out.2, HNE.out]
          refine ⟨oa, oc, na, nc, ia, ic, by rw [HNL.out], HRO.out.later hfb.out, ?_, HRI.out.later hfb.out, HNF.out.1, notin_own HOE.out (fun b hb => Nat.lt_of_lt_of_le (HFF.out b hb) HB.out.size), HNF.out.2.2⟩
          have h9 := own_row (own_apartF HOE.out hfa.out (fun b hb => by simp only [List.mem_cons, List.not_mem_nil, or_false] at hb; omega))
          rw [HNL.out]; exact h9
  | true =>
    have HE := Lib.hid (show createE L s = 5 ∧ createC L s round = L by unfold createE createC; rw [HTH.out]; exact ⟨rfl, rfl⟩)
    simp only [if_true] at CP
    have hp0 : decide ((0 : Int) ≤ (p : Int)) = true := decide_eq_true (by omega)
    have hp1 : (0 : Int) ≤ (p : Int) := by omega
    go_upto_region 2 with (go_at_call 21; (with_reducible refine (CP.out ba bc _ (HRL.out.later (belStep HB.out hbel))).mono ?_); rintro e w2 ⟨rfl, hb_⟩; have hbz := belStep hbel hb_; clear hbel; have hbel := hbz; clear hbz hb_)
    have HZ2 := Lib.hid (HZ.out.later hbel)
    have HB2 := Lib.hid (belStep HB.out hbel)
    replace pp0 := pp0 _ hbel
    replace pp1 := pp1 _ hbel
    replace pp2 := pp2 _ hbel
    replace pp3 := pp3 _ hbel
    replace zz0 := zz0 _ hbel
    replace zz1 := zz1 _ hbel
    replace zz2 := zz2 _ hbel
    replace zz3 := zz3 _ hbel
    have zf := HZ2.out.frozen
    clear ppF zzF
    generalize w2 = W2 at *
    go_wp2
    have hfb := Lib.hid (belSet (belSet (belSet (belSet HB2.out ⟨w.heap.size + 1, 0, none⟩ (.int .i64 r) (Nat.le_succ _)) ⟨w.heap.size + 1, 1, none⟩ (.slice oa O.length oc) (Nat.le_succ _)) ⟨w.heap.size + 1, 2, none⟩ (.slice ba L.length bc) (Nat.le_succ _)) ⟨w.heap.size + 1, 3, none⟩ (.slice ia I.length ic) (Nat.le_succ _))
    refine r16create_ret _ (w.heap.size + 1) _ r oa _ oc ba _ bc ia _ ic 5 _ rfl rfl ((((HZ2.out.set 0 (.int .i64 r)).set 1 (.slice oa O.length oc)).set 2 (.slice ba L.length bc)).set 3 (.slice ia I.length ic)) ⟨_, by rw [HE.out.1], ?_, hfb.out⟩
    rw [HE.out.2]
    exact ⟨oa, oc, ba, bc, ia, ic, rfl, HRO.out.later hfb.out, HRL.out.later hfb.out, HRI.out.later hfb.out, HNF.out⟩
end Go.Proofs.Ytcnjcldfbidkmaa
