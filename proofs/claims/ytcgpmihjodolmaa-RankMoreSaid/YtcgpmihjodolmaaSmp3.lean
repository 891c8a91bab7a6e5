
/- sample.uses: contract. -/
import Derived.Test.YtcgpmihjodolmaaSmp2
namespace Go.Proofs.Ytcgpmihjodolmaa
open Go.RowKit Go.Sort Go.Lib
set_option linter.unusedVariables false
set_option linter.unusedSimpArgs false
theorem info_use : (Try.prog.info? 51).map (fun i => (i.zero, i.size, i.bytes)) = some (some (.agg #[.string ⟨#[]⟩, .int .i64 0, .int .i64 0, .int .i64 0]), 4, 40) := by kernel_rfl
/-- What is answered of what pods use. -/
def usesF (L : List UsgV) : List UseV × Bool := if L.all okU then (readL L, true) else ([], false)
def UsesP (w : World) (U : List UseV × Bool) (e : Ending) (w' : World) : Prop := ∃ b n, e = .returned (.tuple #[.slice b U.1.length n, .bool U.2]) ∧ OwnR w' w.heap.size 51 4 (.slice b U.1.length n) U.1.length (U.1.flatMap UseV.cells)
theorem usesF_no {L : List UsgV} {k : Nat} {x : UsgV} (h : L[k]? = some x) (hx : okU x = false) : usesF L = ([], false) := by
  unfold usesF; rw [if_neg]; intro q
  have := List.all_eq_true.1 q x (List.mem_of_getElem? h)
  rw [hx] at this; cases this
theorem usesF_yes {L : List UsgV} (h : L.all okU = true) : usesF L = (readL L, true) := by unfold usesF; rw [if_pos h]
theorem okU_all {L : List UsgV} {k : Nat} {x : UsgV} (h : L[k]? = some x) (ha : (L.take k).all okU = true) (hx : okU x = true) : (L.take (k + 1)).all okU = true := by
  rw [takeG_next h, List.all_append, ha]; simp [hx]
set_option maxRecDepth 100000 in
set_option maxHeartbeats 16000000 in
theorem smp_uses (a : Option Addr) (len cap : Nat) (L : List UsgV) (w : World) (hl : L.length = len) (hok : ∀ x ∈ L, x.ok) (hR : Row w a len cap 4 (L.flatMap UsgV.cells)) (hd : DistU L) (hb : len ≤ 300) :
    Calls Try.prog 55 #[.slice a len cap] w fun e w' => UsesP w (usesF L) e w' ∧ Below w.heap.size w w' := by
  have hw0 : Below w.heap.size w w := Below.refl _ _
  have hbd_a : len ≤ cap ∧ cap ≤ 9223372036854775807 := by obtain ⟨_, h1, h2, _⟩ := hR; unfold maxLen at h2; exact ⟨h1, h2⟩
  obtain ⟨hbd1_a, hbd2_a⟩ := hbd_a
  have HR := Lib.hid hR
  have HOK := Lib.hid hok
  have HDI := Lib.hid hd
  clear hR hok hd
  subst hl
  go_enter Try.func55, Try.ntmps55
  go_wp2
  go_loopw [4, 11] (fun v i wr => ∃ k : Nat, k ≤ L.length ∧ i = .int .i64 k ∧ OwnR wr w.heap.size 51 4 v ((L.take k).map readU).length (((L.take k).map readU).flatMap UseV.cells) ∧ Hid ((L.take k).all okU = true) ∧ Below w.heap.size w wr) (fun _ i _ => L.length - (intOf i).toNat)
  case atStart => exact ⟨0, Nat.zero_le _, rfl, OwnR.nil _ _ _ _, Lib.hid rfl, hw0⟩
  case round =>
    obtain ⟨k, hk, rfl, hS, HA, hw⟩ := hrel
    clear hw0
    by_cases hlt : k < L.length
    · obtain ⟨x, hx⟩ : ∃ x, L[k]? = some x := ⟨L[k], List.getElem?_eq_getElem hlt⟩
      obtain ⟨bc, oc, ec, _, hcc⟩ := (HR.out.later hw).elem UsgV.cells_len (by omega) hx
      subst ec
      have c0 := keep (hcc 0 _ rfl)
      have c1 := keep (hcc 1 _ rfl)
      have c2 := keep (hcc 2 _ rfl)
      have c3 := keep (hcc 3 _ rfl)
      rw [Nat.add_zero] at c0
      have hd : decide ((k : Int) < (L.length : Int)) = true := decide_eq_true (by omega)
      have HX := Lib.hid hx
      have hxo := HOK.out x (List.mem_of_getElem? hx)
      obtain ⟨hx1, hx2, hx3, hx4⟩ := hxo
      have HN := Lib.hid (mapG_next (f := readU) hx)
      have HUN := Lib.hid (fun q => usesF_no hx q)
      have HOA := Lib.hid (okU_all hx HA.out)
      clear hx hcc
      have hl2 : ((L.take k).map readU).length ≤ L.length := by rw [List.length_map, List.length_take]; omega
      obtain ⟨N, hN⟩ : ∃ N, (L.take k).map readU = N := ⟨_, rfl⟩
      rw [hN] at hS HN hl2
      clear hN
      have hSk : ∀ u, Below wr.heap.size wr u → OwnR u w.heap.size 51 4 u4 N.length (N.flatMap UseV.cells) := fun u hu => OwnR.later hS hu
      clear hS
      have HNX := Lib.hid (show okU x = (all3 x.a x.b x.c && nameB x.id) from rfl)
      have HRU := Lib.hid (show readU x = ⟨x.id, readF x.a, readF x.b, readF x.c⟩ from rfl)
      have CN := Lib.hid (fun u => smp_numbers x.a x.b x.c u hx2 hx3 hx4)
      have CD := Lib.hid (fun u => pod_Named x.id u hx1)
      obtain ⟨o, ho⟩ : ∃ o, all3 x.a x.b x.c = o := ⟨_, rfl⟩
      obtain ⟨m, hm⟩ : ∃ m, nameB x.id = m := ⟨_, rfl⟩
      rw [ho] at CN HNX
      rw [hm] at CD HNX
      clear ho hm
      have hbel : Below wr.heap.size wr wr := Below.refl _ _
      go_upto_region 5 with fail
      have bx0 : (wr.alloc (.cells #[.string x.id, .float .f64 x.a, .float .f64 x.b, .float .f64 x.c] 47)).cell? ⟨wr.heap.size, 0, none⟩ = some (.string x.id) := by first | (simp; done) | (rw [World.cell?_alloc_at _ _ _ _ (by simp)]; rfl) | (rw [World.cell?_alloc_past _ _ _ (by simp <;> omega), World.cell?_alloc_at _ _ _ _ (by simp)]; rfl) | (rw [World.cell?_alloc_past _ _ _ (by simp <;> omega), World.cell?_alloc_past _ _ _ (by simp <;> omega), World.cell?_alloc_at _ _ _ _ (by simp)]; rfl)
      have bx1 : (wr.alloc (.cells #[.string x.id, .float .f64 x.a, .float .f64 x.b, .float .f64 x.c] 47)).cell? ⟨wr.heap.size, 1, none⟩ = some (.float .f64 x.a) := by first | (simp; done) | (rw [World.cell?_alloc_at _ _ _ _ (by simp)]; rfl) | (rw [World.cell?_alloc_past _ _ _ (by simp <;> omega), World.cell?_alloc_at _ _ _ _ (by simp)]; rfl) | (rw [World.cell?_alloc_past _ _ _ (by simp <;> omega), World.cell?_alloc_past _ _ _ (by simp <;> omega), World.cell?_alloc_at _ _ _ _ (by simp)]; rfl)
      have bx2 : (wr.alloc (.cells #[.string x.id, .float .f64 x.a, .float .f64 x.b, .float .f64 x.c] 47)).cell? ⟨wr.heap.size, 2, none⟩ = some (.float .f64 x.b) := by first | (simp; done) | (rw [World.cell?_alloc_at _ _ _ _ (by simp)]; rfl) | (rw [World.cell?_alloc_past _ _ _ (by simp <;> omega), World.cell?_alloc_at _ _ _ _ (by simp)]; rfl) | (rw [World.cell?_alloc_past _ _ _ (by simp <;> omega), World.cell?_alloc_past _ _ _ (by simp <;> omega), World.cell?_alloc_at _ _ _ _ (by simp)]; rfl)
      have bx3 : (wr.alloc (.cells #[.string x.id, .float .f64 x.a, .float .f64 x.b, .float .f64 x.c] 47)).cell? ⟨wr.heap.size, 3, none⟩ = some (.float .f64 x.c) := by first | (simp; done) | (rw [World.cell?_alloc_at _ _ _ _ (by simp)]; rfl) | (rw [World.cell?_alloc_past _ _ _ (by simp <;> omega), World.cell?_alloc_at _ _ _ _ (by simp)]; rfl) | (rw [World.cell?_alloc_past _ _ _ (by simp <;> omega), World.cell?_alloc_past _ _ _ (by simp <;> omega), World.cell?_alloc_at _ _ _ _ (by simp)]; rfl)
      have hb2 := (by repeat (first | exact hbel | refine belAlloc ?_ _ | refine belDrew ?_ | refine belSet ?_ _ _ (by simp)) : Below wr.heap.size wr (wr.alloc (.cells #[.string x.id, .float .f64 x.a, .float .f64 x.b, .float .f64 x.c] 47)))
      replace hSk := keepOnP hSk hb2
      replace c0 := keepOnP c0 hb2
      replace c1 := keepOnP c1 hb2
      replace c2 := keepOnP c2 hb2
      replace c3 := keepOnP c3 hb2
      replace hw := belStep hw hb2
      clear hb2 hbel
      generalize wr.alloc (.cells #[.string x.id, .float .f64 x.a, .float .f64 x.b, .float .f64 x.c] 47) = W2 at *
      replace bx0 := keep bx0
      replace bx1 := keep bx1
      replace bx2 := keep bx2
      replace bx3 := keep bx3
      have hbel : Below W2.heap.size W2 W2 := Below.refl _ _
      skip
      rcases o with _ | _
      · have HU := Lib.hid (HUN.out HNX.out)
        go_wp2_with (first | (go_at_call 54; (with_reducible refine (CN.out _).mono ?_); rintro e w3 ⟨rfl, hb3⟩; replace hbel := belStep hbel hb3; clear hb3))
        go_ret2
        exact ⟨⟨none, 0, by rw [HU.out]; rfl, by rw [HU.out]; exact OwnR.nil _ _ _ _⟩, by repeat (first | exact belStep hw hbel | refine belAlloc ?_ _)⟩
      · go_upto_region 6 with (first | (go_at_call 54; (with_reducible refine (CN.out _).mono ?_); rintro e w3 ⟨rfl, hb3⟩; replace hbel := belStep hbel hb3; clear hb3))
        have n0 : (w3.alloc (.cells #[.int .i64 (nx true x.a), .int .i64 (nx true x.b), .int .i64 (nx true x.c)] 29)).cell? ⟨w3.heap.size, 0, none⟩ = some (.int .i64 (nx true x.a)) := by first | (simp; done) | (rw [World.cell?_alloc_at _ _ _ _ (by simp)]; rfl) | (rw [World.cell?_alloc_past _ _ _ (by simp <;> omega), World.cell?_alloc_at _ _ _ _ (by simp)]; rfl) | (rw [World.cell?_alloc_past _ _ _ (by simp <;> omega), World.cell?_alloc_past _ _ _ (by simp <;> omega), World.cell?_alloc_at _ _ _ _ (by simp)]; rfl)
        have n1 : (w3.alloc (.cells #[.int .i64 (nx true x.a), .int .i64 (nx true x.b), .int .i64 (nx true x.c)] 29)).cell? ⟨w3.heap.size, 1, none⟩ = some (.int .i64 (nx true x.b)) := by first | (simp; done) | (rw [World.cell?_alloc_at _ _ _ _ (by simp)]; rfl) | (rw [World.cell?_alloc_past _ _ _ (by simp <;> omega), World.cell?_alloc_at _ _ _ _ (by simp)]; rfl) | (rw [World.cell?_alloc_past _ _ _ (by simp <;> omega), World.cell?_alloc_past _ _ _ (by simp <;> omega), World.cell?_alloc_at _ _ _ _ (by simp)]; rfl)
        have n2 : (w3.alloc (.cells #[.int .i64 (nx true x.a), .int .i64 (nx true x.b), .int .i64 (nx true x.c)] 29)).cell? ⟨w3.heap.size, 2, none⟩ = some (.int .i64 (nx true x.c)) := by first | (simp; done) | (rw [World.cell?_alloc_at _ _ _ _ (by simp)]; rfl) | (rw [World.cell?_alloc_past _ _ _ (by simp <;> omega), World.cell?_alloc_at _ _ _ _ (by simp)]; rfl) | (rw [World.cell?_alloc_past _ _ _ (by simp <;> omega), World.cell?_alloc_past _ _ _ (by simp <;> omega), World.cell?_alloc_at _ _ _ _ (by simp)]; rfl)
        have hb2 := (by repeat (first | exact hbel | refine belAlloc ?_ _ | refine belDrew ?_ | refine belSet ?_ _ _ (by simp)) : Below W2.heap.size W2 (w3.alloc (.cells #[.int .i64 (nx true x.a), .int .i64 (nx true x.b), .int .i64 (nx true x.c)] 29)))
        replace hSk := keepOnP hSk hb2
        replace c0 := keepOnP c0 hb2
        replace c1 := keepOnP c1 hb2
        replace c2 := keepOnP c2 hb2
        replace c3 := keepOnP c3 hb2
        replace bx0 := keepOnP bx0 hb2
        replace bx1 := keepOnP bx1 hb2
        replace bx2 := keepOnP bx2 hb2
        replace bx3 := keepOnP bx3 hb2
        replace hw := belStep hw hb2
        clear hb2 hbel
        generalize w3.alloc (.cells #[.int .i64 (nx true x.a), .int .i64 (nx true x.b), .int .i64 (nx true x.c)] 29) = W3 at *
        replace n0 := keep n0
        replace n1 := keep n1
        replace n2 := keep n2
        generalize w3.heap.size = M at *
        have hbel : Below W3.heap.size W3 W3 := Below.refl _ _
        clear w3
        rcases m with _ | _
        · have HU := Lib.hid (HUN.out HNX.out)
          go_wp2_with (first | (go_at_call 63; (with_reducible refine (CD.out _).mono ?_); rintro e w' ⟨rfl, rfl⟩))
          go_ret2
          exact ⟨⟨none, 0, by rw [HU.out]; rfl, by rw [HU.out]; exact OwnR.nil _ _ _ _⟩, belStep hw hbel⟩
        · have HO := Lib.hid (HOA.out HNX.out)
          have HS3 := Lib.hid (OwnR.alloc (hSk _ hbel) (.cells #[.string x.id, .int .i64 (nx true x.a), .int .i64 (nx true x.b), .int .i64 (nx true x.c)] 51))
          have HRX := Lib.hid (row_new W3 [.string x.id, .int .i64 (nx true x.a), .int .i64 (nx true x.b), .int .i64 (nx true x.c)] 51 1 4 rfl (by unfold maxLen; omega))
          clear hSk
          go_wp2_with (first | (go_at_call 63; (with_reducible refine (CD.out _).mono ?_); rintro e w' ⟨rfl, rfl⟩) | (at_builtin; refine wpList_app_row rfl _ _ 30 rfl w.heap.size 51 _ 4 40 Try.underlying30 info_use rfl (by decide) _ _ _ rfl HS3.out _ 1 1 [.string x.id, .int .i64 (nx true x.a), .int .i64 (nx true x.b), .int .i64 (nx true x.c)] rfl HRX.out (use_one ⟨x.id, nx true x.a, nx true x.b, nx true x.c⟩) ?c1 ?c2 ?c3 ?_))
          case c1 => simp only [maxLen]; omega
          case c2 => omega
          case c3 => have h2 := hw.size; simp; omega
          intro v' w4 ho' hb' _
          have HO2 := Lib.hid (own_snocG (enc := UseV.cells) (x := ⟨x.id, readF x.a, readF x.b, readF x.c⟩) ho')
          have HB2 := Lib.hid ((belAlloc (belStep hw hbel) (.cells #[.string x.id, .int .i64 (nx true x.a), .int .i64 (nx true x.b), .int .i64 (nx true x.c)] 51)).trans hb')
          clear ho' hb' hbel hw
          go_wp2
          go_roundw
          case rel => exact ⟨k + 1, by omega, by push_cast; rfl, by rw [HN.out, HRU.out]; exact HO2.out, Lib.hid HO.out, HB2.out⟩
          case measure => simp [intOf] <;> omega
    · obtain rfl : k = L.length := by omega
      have hd : decide ((L.length : Int) < (L.length : Int)) = false := decide_eq_false (by omega)
      rw [List.take_length] at hS
      have HU := Lib.hid (usesF_yes (L := L) (by have := HA.out; rwa [List.take_length] at this))
      have CS := Lib.hid (sort_uses (w := wr) (B := w.heap.size) (v := u4) (L := L.map readU) (ltU_cf ▸ HDI.out.tied) (by rw [List.length_map]; omega) hS rfl)
      have HLT := Lib.hid (fun q hq => World.ownsRow.lt hS q hq)
      have hbw := hw
      clear hS
      go_wp2_with (go_at_call 64; (with_reducible refine CS.out.mono ?_); rintro e w5 ⟨rfl, hO5, hg5⟩)
      obtain ⟨a5, c5, e5, hr5⟩ := rowR_of_own hO5
      subst e5
      have hb5 : Below w.heap.size wr w5 := (Below.refl _ _).grown hg5 hbw.size fun q hq => (HLT.out q hq).1
      go_ret2
      refine ⟨⟨a5, c5, ?_, ?_⟩, hbw.trans hb5⟩
      · rw [HU.out]; show _ = Ending.returned (.tuple #[.slice a5 (readL L).length c5, .bool true]); rw [show (readL L).length = (L.map readU).length by rw [readL_len, List.length_map]]; rfl
      · rw [HU.out]; show OwnR w5 w.heap.size 51 4 (.slice a5 (readL L).length c5) (readL L).length ((readL L).flatMap UseV.cells); rw [show (readL L).length = (L.map readU).length by rw [readL_len, List.length_map]]; rw [sortU_cf] at hO5; exact hO5
end Go.Proofs.Ytcgpmihjodolmaa
