
/- state.Put: contract. -/
import Derived.Test.YtpmkhimmlpnbpaaSt1
import Derived.Test.YtpmkhimmlpnbpaaPodLaws
namespace Go.Proofs.Ytpmkhimmlpnbpaa
open Go.RowKit
set_option linter.unusedVariables false
set_option linter.unusedSimpArgs false
theorem ents_len {M : List EntV} (h : ∀ y ∈ M, entB y = true) {m : Nat} (hm : M.length ≤ m) : (M.flatMap EntV.bytes).length ≤ m * 116 := by
  induction M generalizing m with
  | nil => simp
  | cons y M ih =>
    rw [List.flatMap_cons, List.length_append]
    have h1 := h y List.mem_cons_self
    unfold entB at h1
    rw [Bool.and_eq_true] at h1
    have h2 := bytes_bd h1.1
    rw [List.length_cons] at hm
    have h3 := ih (m := m - 1) (fun z hz => h z (List.mem_cons_of_mem _ hz)) (by omega)
    have h4 : (EntV.bytes y).length = y.pod.bytes.length + 1 := by unfold EntV.bytes; rw [List.length_cons]
    have h5 : m * 116 = (m - 1) * 116 + 116 := by omega
    omega
theorem row_grownS {w w' : World} {g n cap size : Nat} {cs : List Value} {v : Value} (h : Row w (some ⟨g, 0, none⟩) n cap size cs) (hg : w.grownBy w' v.ownBlock) (hne : v.ownBlock ≠ some g) (hl : g < w.heap.size) : Row w' (some ⟨g, 0, none⟩) n cap size cs := by
  obtain ⟨h1, h2, h3, h4, h5⟩ := h
  refine ⟨h1, h2, h3, h4, h5.imp id ?_⟩
  rintro ⟨b, off, e1, hc⟩
  cases e1
  refine ⟨_, _, rfl, fun i hi => ?_⟩
  rw [← hc i hi]
  unfold World.cell?
  rw [hg.block g hl (fun e => hne e.symm)]
theorem put_own (p : PodV) (w : World) (hp : p.ok) (hr : rightB p = true) (n : Nat) (hn : p.bytes.length = n) : Calls Try.prog 33 #[.agg #[.string p.id, .int .i64 p.prio, .bool p.crit, .int .i64 p.r0, .int .i64 p.r1, .int .i64 p.r2, .int .i64 p.l0, .int .i64 p.l1, .int .i64 p.l2, .string p.img, .int .i64 p.size]] w fun e w' => ∃ g c, e = .returned (.tuple #[.slice (some ⟨g, 0, none⟩) n c, .int .i64 0]) ∧ (n ≤ c ∧ c ≤ 9223372036854775807) ∧ (w.heap.size ≤ g ∧ g < w'.heap.size) ∧ Ints .u8 w' (some ⟨g, 0, none⟩) n c p.bytes ∧ Below w.heap.size w w' := by
  refine (pod_Put p w hp hr).mono ?_
  rintro e w1 ⟨v, rfl, hown, hb⟩
  have hl := PodV.bytes_len p
  rcases hown.shape with ⟨rfl, h0⟩ | ⟨g, c, rfl, h1, h2, h3, h4⟩
  · rw [h0] at hl; simp at hl
  · obtain ⟨a, c2, e2, hi⟩ := ints_of_own hown (fun m hm => wf8 m (PodV.bytes_B (PodV.fine hr) m hm))
    simp at e2
    obtain ⟨rfl, rfl⟩ := e2
    rw [hn] at hi h3 ⊢
    exact ⟨g, c, rfl, ⟨h3, h4⟩, ⟨h1, h2⟩, hi, hb⟩
set_option maxRecDepth 100000 in
set_option maxHeartbeats 4000000 in
theorem st_Put_no (r : Int) (a : Option Addr) (n c : Nat) (o : On) (L : List EntV) (w : World) (hl : L.length = n) (hok : ∀ x ∈ L, x.ok) (hR : Row w a n c 12 (L.flatMap EntV.cells)) (hr : stB r L = false) :
    Calls Try.prog 13 #[.agg #[.int .i64 r, .slice a n c, .bool o.a, .bool o.b, .bool o.c]] w fun e w' => e = .returned (.tuple #[.slice none 0 0, .int .i64 1]) ∧ Below w.heap.size w w' := by
  have HC := Lib.hid (fun u (hu : Below w.heap.size w u) => hr ▸ st_Right r a n c o L u hl hok (hR.later hu))
  clear hok hR
  have hw : Below w.heap.size w w := Below.refl _ _
  have hbel := hw
  go_enter Try.func13, Try.ntmps13
  go_upto_region 1 with fail
  have ss0 : (w.alloc (.cells #[.int .i64 r, .slice a n c, .bool o.a, .bool o.b, .bool o.c] 25)).cell? ⟨w.heap.size, 0, none⟩ = some (.int .i64 r) := by first | (simp; done) | (rw [World.cell?_alloc_at _ _ _ _ (by simp)]; rfl) | (rw [World.cell?_alloc_past _ _ _ (by simp <;> omega), World.cell?_alloc_at _ _ _ _ (by simp)]; rfl) | (rw [World.cell?_alloc_past _ _ _ (by simp <;> omega), World.cell?_alloc_past _ _ _ (by simp <;> omega), World.cell?_alloc_at _ _ _ _ (by simp)]; rfl)
  have ss1 : (w.alloc (.cells #[.int .i64 r, .slice a n c, .bool o.a, .bool o.b, .bool o.c] 25)).cell? ⟨w.heap.size, 1, none⟩ = some (.slice a n c) := by first | (simp; done) | (rw [World.cell?_alloc_at _ _ _ _ (by simp)]; rfl) | (rw [World.cell?_alloc_past _ _ _ (by simp <;> omega), World.cell?_alloc_at _ _ _ _ (by simp)]; rfl) | (rw [World.cell?_alloc_past _ _ _ (by simp <;> omega), World.cell?_alloc_past _ _ _ (by simp <;> omega), World.cell?_alloc_at _ _ _ _ (by simp)]; rfl)
  have ss2 : (w.alloc (.cells #[.int .i64 r, .slice a n c, .bool o.a, .bool o.b, .bool o.c] 25)).cell? ⟨w.heap.size, 2, none⟩ = some (.bool o.a) := by first | (simp; done) | (rw [World.cell?_alloc_at _ _ _ _ (by simp)]; rfl) | (rw [World.cell?_alloc_past _ _ _ (by simp <;> omega), World.cell?_alloc_at _ _ _ _ (by simp)]; rfl) | (rw [World.cell?_alloc_past _ _ _ (by simp <;> omega), World.cell?_alloc_past _ _ _ (by simp <;> omega), World.cell?_alloc_at _ _ _ _ (by simp)]; rfl)
  have ss3 : (w.alloc (.cells #[.int .i64 r, .slice a n c, .bool o.a, .bool o.b, .bool o.c] 25)).cell? ⟨w.heap.size, 3, none⟩ = some (.bool o.b) := by first | (simp; done) | (rw [World.cell?_alloc_at _ _ _ _ (by simp)]; rfl) | (rw [World.cell?_alloc_past _ _ _ (by simp <;> omega), World.cell?_alloc_at _ _ _ _ (by simp)]; rfl) | (rw [World.cell?_alloc_past _ _ _ (by simp <;> omega), World.cell?_alloc_past _ _ _ (by simp <;> omega), World.cell?_alloc_at _ _ _ _ (by simp)]; rfl)
  have ss4 : (w.alloc (.cells #[.int .i64 r, .slice a n c, .bool o.a, .bool o.b, .bool o.c] 25)).cell? ⟨w.heap.size, 4, none⟩ = some (.bool o.c) := by first | (simp; done) | (rw [World.cell?_alloc_at _ _ _ _ (by simp)]; rfl) | (rw [World.cell?_alloc_past _ _ _ (by simp <;> omega), World.cell?_alloc_at _ _ _ _ (by simp)]; rfl) | (rw [World.cell?_alloc_past _ _ _ (by simp <;> omega), World.cell?_alloc_past _ _ _ (by simp <;> omega), World.cell?_alloc_at _ _ _ _ (by simp)]; rfl)
  have hb2 := (by repeat (first | exact hbel | refine belAlloc ?_ _ | refine belDrew ?_ | refine belSet ?_ _ _ (by simp)) : Below w.heap.size w (w.alloc (.cells #[.int .i64 r, .slice a n c, .bool o.a, .bool o.b, .bool o.c] 25)))
  replace hw := belStep hw hb2
  clear hb2 hbel
  generalize w.alloc (.cells #[.int .i64 r, .slice a n c, .bool o.a, .bool o.b, .bool o.c] 25) = W1 at *
  replace ss0 := keep ss0
  replace ss1 := keep ss1
  replace ss2 := keep ss2
  replace ss3 := keep ss3
  replace ss4 := keep ss4
  have hbel : Below W1.heap.size W1 W1 := Below.refl _ _
  skip
  go_wp2_with (first | (go_at_call 14; (with_reducible refine (HC.out _ (belStep hw hbel)).mono ?_); rintro e w1 ⟨rfl, hb1⟩; replace hbel := belStep hbel hb1; clear hb1))
  go_ret2
  exact ⟨rfl, belStep hw hbel⟩
set_option maxRecDepth 100000 in
set_option maxHeartbeats 16000000 in
theorem st_Put (rn : Nat) (a : Option Addr) (n c : Nat) (o : On) (L : List EntV) (w : World) (hl : L.length = n) (hok : ∀ x ∈ L, x.ok) (hR : Row w a n c 12 (L.flatMap EntV.cells)) (hr : stB (rn : Int) L = true) :
    Calls Try.prog 13 #[.agg #[.int .i64 (rn : Int), .slice a n c, .bool o.a, .bool o.b, .bool o.c]] w fun e w' => ∃ v, e = .returned (.tuple #[v, .int .i64 0]) ∧ OwnI w' w.heap.size 5 .u8 v (stBytes rn o L) ∧ Below w.heap.size w w' := by
  have CRT := Lib.hid (fun u (hu : Below w.heap.size w u) => hr ▸ st_Right (rn : Int) a n c o L u hl hok (hR.later hu))
  have HEN := Lib.hid (st_ent hr)
  have hnm := st_nums hr
  have hrn : rn ≤ 1099511627776 := by omega
  have hl64 : L.length ≤ 64 := hnm.2.2
  clear hnm hr
  have hbd : n ≤ c ∧ c ≤ 9223372036854775807 := by obtain ⟨_, h1, h2, _⟩ := hR; unfold maxLen at h2; exact ⟨h1, h2⟩
  obtain ⟨hbd1, hbd2⟩ := hbd
  have HR := Lib.hid hR
  have HOK := Lib.hid hok
  subst hl
  clear hR hok
  have hw : Below w.heap.size w w := Below.refl _ _
  have hbel := hw
  go_enter Try.func13, Try.ntmps13
  go_upto_region 1 with fail
  have ss0 : (w.alloc (.cells #[.int .i64 rn, .slice a L.length c, .bool o.a, .bool o.b, .bool o.c] 25)).cell? ⟨w.heap.size, 0, none⟩ = some (.int .i64 rn) := by first | (simp; done) | (rw [World.cell?_alloc_at _ _ _ _ (by simp)]; rfl) | (rw [World.cell?_alloc_past _ _ _ (by simp <;> omega), World.cell?_alloc_at _ _ _ _ (by simp)]; rfl) | (rw [World.cell?_alloc_past _ _ _ (by simp <;> omega), World.cell?_alloc_past _ _ _ (by simp <;> omega), World.cell?_alloc_at _ _ _ _ (by simp)]; rfl)
  have ss1 : (w.alloc (.cells #[.int .i64 rn, .slice a L.length c, .bool o.a, .bool o.b, .bool o.c] 25)).cell? ⟨w.heap.size, 1, none⟩ = some (.slice a L.length c) := by first | (simp; done) | (rw [World.cell?_alloc_at _ _ _ _ (by simp)]; rfl) | (rw [World.cell?_alloc_past _ _ _ (by simp <;> omega), World.cell?_alloc_at _ _ _ _ (by simp)]; rfl) | (rw [World.cell?_alloc_past _ _ _ (by simp <;> omega), World.cell?_alloc_past _ _ _ (by simp <;> omega), World.cell?_alloc_at _ _ _ _ (by simp)]; rfl)
  have ss2 : (w.alloc (.cells #[.int .i64 rn, .slice a L.length c, .bool o.a, .bool o.b, .bool o.c] 25)).cell? ⟨w.heap.size, 2, none⟩ = some (.bool o.a) := by first | (simp; done) | (rw [World.cell?_alloc_at _ _ _ _ (by simp)]; rfl) | (rw [World.cell?_alloc_past _ _ _ (by simp <;> omega), World.cell?_alloc_at _ _ _ _ (by simp)]; rfl) | (rw [World.cell?_alloc_past _ _ _ (by simp <;> omega), World.cell?_alloc_past _ _ _ (by simp <;> omega), World.cell?_alloc_at _ _ _ _ (by simp)]; rfl)
  have ss3 : (w.alloc (.cells #[.int .i64 rn, .slice a L.length c, .bool o.a, .bool o.b, .bool o.c] 25)).cell? ⟨w.heap.size, 3, none⟩ = some (.bool o.b) := by first | (simp; done) | (rw [World.cell?_alloc_at _ _ _ _ (by simp)]; rfl) | (rw [World.cell?_alloc_past _ _ _ (by simp <;> omega), World.cell?_alloc_at _ _ _ _ (by simp)]; rfl) | (rw [World.cell?_alloc_past _ _ _ (by simp <;> omega), World.cell?_alloc_past _ _ _ (by simp <;> omega), World.cell?_alloc_at _ _ _ _ (by simp)]; rfl)
  have ss4 : (w.alloc (.cells #[.int .i64 rn, .slice a L.length c, .bool o.a, .bool o.b, .bool o.c] 25)).cell? ⟨w.heap.size, 4, none⟩ = some (.bool o.c) := by first | (simp; done) | (rw [World.cell?_alloc_at _ _ _ _ (by simp)]; rfl) | (rw [World.cell?_alloc_past _ _ _ (by simp <;> omega), World.cell?_alloc_at _ _ _ _ (by simp)]; rfl) | (rw [World.cell?_alloc_past _ _ _ (by simp <;> omega), World.cell?_alloc_past _ _ _ (by simp <;> omega), World.cell?_alloc_at _ _ _ _ (by simp)]; rfl)
  have hb2 := (by repeat (first | exact hbel | refine belAlloc ?_ _ | refine belDrew ?_ | refine belSet ?_ _ _ (by simp)) : Below w.heap.size w (w.alloc (.cells #[.int .i64 rn, .slice a L.length c, .bool o.a, .bool o.b, .bool o.c] 25)))
  replace hw := belStep hw hb2
  clear hb2 hbel
  generalize w.alloc (.cells #[.int .i64 rn, .slice a L.length c, .bool o.a, .bool o.b, .bool o.c] 25) = W1 at *
  replace ss0 := keep ss0
  replace ss1 := keep ss1
  replace ss2 := keep ss2
  replace ss3 := keep ss3
  replace ss4 := keep ss4
  have hbel : Below W1.heap.size W1 W1 := Below.refl _ _
  skip
  go_upto_region 3 with (first | (go_at_call 14; (with_reducible refine (CRT.out _ (belStep hw hbel)).mono ?_); rintro e w1 ⟨rfl, hb1⟩; replace hbel := belStep hbel hb1; clear hb1))
  replace ss0 := keepOnP ss0 hbel
  replace ss1 := keepOnP ss1 hbel
  replace ss2 := keepOnP ss2 hbel
  replace ss3 := keepOnP ss3 hbel
  replace ss4 := keepOnP ss4 hbel
  replace hw := belStep hw hbel
  clear hbel
  generalize w1 = W2 at *
  have hbel : Below W2.heap.size W2 W2 := Below.refl _ _
  have HW2 := Lib.hid hw
  clear hw CRT
  have hb0 : Below W2.heap.size W2 W2 := Below.refl _ _
  go_wp2
  clear hbel
  go_loopw [4, 5] (fun v i wr => ∃ j : Nat, ((∃ sh : Nat, sh + 8 * j = 56 ∧ j < 8 ∧ i = .int .i64 sh) ∨ (j = 8 ∧ i = .int .i64 (-8))) ∧ OwnI wr W2.heap.size 5 .u8 v ((W8 rn).take j) ∧ Below W2.heap.size W2 wr) (fun _ i _ => (intOf i + 8).toNat)
  case atStart => exact ⟨0, .inl ⟨56, rfl, by omega, rfl⟩, OwnI.nil _ _ _ _, by assumption⟩
  case round =>
    clear hb0
    obtain ⟨j, hj, ho, hbr⟩ := hrel
    have HO := Lib.hid ho
    clear ho
    have s0 := keepOn ss0 hbr
    rcases hj with ⟨sh, hsh, hj8, rfl⟩ | ⟨rfl, rfl⟩
    · have x2 := s0 wr (Below.refl _ _)
      have hlen : ((W8 rn).take j).length ≤ 8 := by rw [List.length_take]; omega
      have HT := Lib.hid (W8_take rn j hj8)
      have HBY := Lib.hid (show ((rn / 2 ^ (56 - 8 * j) % 256 : Nat) : Int) = (rn : Int) / 2 ^ sh % 256 by rw [show 56 - 8 * j = sh by omega]; push_cast; rfl)
      have hsz := hbr.size
      clear s0
      go_wp2_with (at_builtin; refine wpList_app_one rfl _ _ 28 rfl W2.heap.size 5 .u8 1 Try.underlying28 info_u8 _ _ rfl (HO.out.alloc (.cells #[.int .u8 ((rn : Int) / 2 ^ sh % 256)] 5)) _ _ rfl (by simp; rfl) (by unfold maxLen; omega) (by omega) (by simp; omega) ?_; intro v6 w6 ho6 hb6 hg6 hm6; have hbw6 := (belAlloc hbr (.cells #[.int .u8 ((rn : Int) / 2 ^ sh % 256)] 5)).trans hb6; have HO6 := Lib.hid ho6; clear ho6 hb6 hg6 hm6 x2)
      go_roundw
      case rel =>
        refine ⟨j + 1, ?_, by rw [HT.out, HBY.out]; exact HO6.out, hbw6⟩
        by_cases h7 : j + 1 < 8
        · exact .inl ⟨sh - 8, by omega, h7, by congr 1; omega⟩
        · exact .inr ⟨by omega, by congr 1; omega⟩
      case measure => simp [intOf] <;> omega
    · have HO1 := Lib.hid (show OwnI wr W2.heap.size 5 .u8 _ (W8 rn) from by have h := HO.out; rwa [List.take_of_length_le (by rw [W8_len]; exact Nat.le_refl _)] at h)
      clear HO
      generalize wr = W3 at *
      have s1 := keepOn ss1 hbr
      have s2 := keepOn ss2 hbr
      have s3 := keepOn ss3 hbr
      have s4 := keepOn ss4 hbr
      have HB3 := Lib.hid hbr
      have T1 := Lib.hid ss1
      clear s0 hbr ss0 ss1 ss2 ss3 ss4
      have x2 := s2 W3 (Below.refl _ _)
      have x3 := s3 W3 (Below.refl _ _)
      have x4 := s4 W3 (Below.refl _ _)
      go_wp2
      clear x2 x3 x4
      go_loopw [6, 30] (fun f i wr => ((i = .int .i64 0 ∧ f = .int .u8 0) ∨ (i = .int .i64 1 ∧ f = .int .u8 (if o.a then (1 : Int) else 0)) ∨ (i = .int .i64 2 ∧ f = .int .u8 ((if o.a then (1 : Int) else 0) + (if o.b then 2 else 0))) ∨ (i = .int .i64 3 ∧ f = .int .u8 (onI o))) ∧ W3 = wr) (fun _ i _ => 3 - (intOf i).toNat)
      case atStart => exact ⟨.inl ⟨rfl, rfl⟩, rfl⟩
      case round =>
        obtain ⟨hi, rfl⟩ := hrel
        rcases hi with ⟨rfl, rfl⟩ | ⟨rfl, rfl⟩ | ⟨rfl, rfl⟩ | ⟨rfl, rfl⟩
        · obtain ⟨oa, hoa⟩ : ∃ x, o.a = x := ⟨_, rfl⟩
          try simp only [hoa]
          have ix : ∀ u : World, (Instr.index 23 (.agg #[.bool oa, .bool o.b, .bool o.c]) (.int .i64 0)).run Try.prog u = .ok (.bool oa) u := fun u => by first | kernel_rfl | rfl
          have HN := Lib.hid hoa
          clear hoa
          cases oa
          all_goals
            go_wp2
            go_roundw
            case rel => refine ⟨.inr (.inl ⟨rfl, ?_⟩), by first | rfl | trivial⟩; first | rfl | (simp [onI, HN.out]; done) | (simp [onI, HN.out]; rfl) | (simp [onI, HN.out]; decide)
            case measure => simp [intOf]
        · obtain ⟨oa, hoa⟩ : ∃ x, o.a = x := ⟨_, rfl⟩
          obtain ⟨ob, hob⟩ : ∃ x, o.b = x := ⟨_, rfl⟩
          try simp only [hoa, hob]
          have ix : ∀ u : World, (Instr.index 23 (.agg #[.bool oa, .bool ob, .bool o.c]) (.int .i64 1)).run Try.prog u = .ok (.bool ob) u := fun u => by first | kernel_rfl | rfl
          have HN := Lib.hid (⟨hoa, hob⟩ : o.a = oa ∧ o.b = ob)
          clear hoa hob
          rcases oa with _ | _ <;> rcases ob with _ | _
          all_goals
            go_wp2
            go_roundw
            case rel => refine ⟨.inr (.inr (.inl ⟨rfl, ?_⟩)), by first | rfl | trivial⟩; first | rfl | (simp [onI, HN.out.1, HN.out.2]; done) | (simp [onI, HN.out.1, HN.out.2]; rfl) | (simp [onI, HN.out.1, HN.out.2]; decide)
            case measure => simp [intOf]
        · obtain ⟨oa, hoa⟩ : ∃ x, o.a = x := ⟨_, rfl⟩
          obtain ⟨ob, hob⟩ : ∃ x, o.b = x := ⟨_, rfl⟩
          obtain ⟨oc, hoc⟩ : ∃ x, o.c = x := ⟨_, rfl⟩
          try simp only [hoa, hob, hoc]
          have ix : ∀ u : World, (Instr.index 23 (.agg #[.bool oa, .bool ob, .bool oc]) (.int .i64 2)).run Try.prog u = .ok (.bool oc) u := fun u => by first | kernel_rfl | rfl
          have HN := Lib.hid (⟨hoa, hob, hoc⟩ : o.a = oa ∧ o.b = ob ∧ o.c = oc)
          clear hoa hob hoc
          rcases oa with _ | _ <;> rcases ob with _ | _ <;> rcases oc with _ | _
          all_goals
            go_wp2
            go_roundw
            case rel => refine ⟨.inr (.inr (.inr ⟨rfl, ?_⟩)), by first | rfl | trivial⟩; first | rfl | (simp [onI, HN.out.1, HN.out.2.1, HN.out.2.2]; done) | (simp [onI, HN.out.1, HN.out.2.1, HN.out.2.2]; rfl) | (simp [onI, HN.out.1, HN.out.2.1, HN.out.2.2]; decide)
            case measure => simp [intOf]
        · have hfl : 0 ≤ onI o ∧ onI o ≤ 255 := by unfold onI; cases o.a <;> cases o.b <;> cases o.c <;> simp
          obtain ⟨fl, hflg⟩ : ∃ f, onI o = f := ⟨_, rfl⟩
          rw [hflg] at hfl ⊢
          have HFL := Lib.hid hflg
          clear hflg
          obtain ⟨hfl0, hfl1⟩ := hfl
          have hu8 : IntKind.u8.wrap (L.length : Int) = (L.length : Int) := IntWalk.u8_in _ (by omega)
          have HT := Lib.hid (show Ints .u8 (W3.alloc (.cells #[.int .u8 fl, .int .u8 (L.length : Int)] 5)) (some ⟨W3.heap.size, 0, none⟩) 2 2 [fl, (L.length : Int)] from ints_new (k := .u8) W3 [fl, (L.length : Int)] 5 (0, 0) (by unfold maxLen; simp) (fun m hm => by simp at hm; rcases hm with rfl | rfl <;> exact WalkArith.wf_u8 ⟨by omega, by omega⟩))
          have HO2 := Lib.hid (OwnI.alloc HO1.out (.cells #[.int .u8 fl, .int .u8 (L.length : Int)] 5))
          have hbA := belAlloc HB3.out (.cells #[.int .u8 fl, .int .u8 (L.length : Int)] 5)
          have hsA := hbA.size
          have hl8 := W8_len rn
          clear HO1
          have x1 := s1 W3 (Below.refl _ _)
          go_wp2_with (at_builtin; refine wpList_app_ints rfl _ _ 28 rfl W2.heap.size 5 .u8 1 Try.underlying28 info_u8 _ _ rfl HO2.out _ 2 2 ([fl, (L.length : Int)]) rfl (HT.out) ?c1 ?c2 ?c3 ?_)
          case c1 => rw [hl8]; simp only [maxLen]; omega
          case c2 => rw [hl8]; omega
          case c3 => first | exact hsA | (have := HB3.out.size; omega)
          intro v4 w4 ho4 hb4 hg4
          have HOH := Lib.hid ho4
          have HB4 := Lib.hid (hbA.trans hb4)
          obtain ⟨hd, hhd⟩ : ∃ l, W8 rn ++ [fl, (L.length : Int)] = l := ⟨_, rfl⟩
          have HHD := Lib.hid hhd
          have hhl : hd.length = 10 := by rw [← hhd, List.length_append, hl8]; rfl
          rw [hhd] at HOH
          clear hhd ho4 hb4 hg4 HT HO2 hbA hsA x1
          have x1 := T1.out w4 HB4.out
          go_wp2
          clear x1
          go_loopw [4, 51] (fun v i wr => ∃ k : Nat, k ≤ L.length ∧ i = .int .i64 k ∧ OwnI wr W2.heap.size 5 .u8 v (hd ++ (L.take k).flatMap EntV.bytes) ∧ Below W2.heap.size W2 wr) (fun _ i _ => L.length - (intOf i).toNat)
          case atStart => exact ⟨0, Nat.zero_le _, rfl, by simpa using HOH.out, HB4.out⟩
          case round =>
            obtain ⟨k, hk, rfl, ho, hbr⟩ := hrel
            have HO := Lib.hid ho
            clear ho
            by_cases hlt : k < L.length
            · have hd9 : decide ((k : Int) < (L.length : Int)) = true := decide_eq_true (by omega)
              have hki : (k : Int) < (L.length : Int) := by omega
              have hk0 : (0 : Int) ≤ (k : Int) := by omega
              have HRW := Lib.hid (HR.out.later (belStep HW2.out hbr))
              obtain ⟨x, hx⟩ : ∃ x, L[k]? = some x := ⟨L[k]'(hlt), List.getElem?_eq_getElem _⟩
              obtain ⟨bc, oc, ec, _, hcc⟩ := (HRW.out).elem EntV.cells_len (by omega) hx
              subst ec
              have c0 := keep (hcc 0 _ rfl)
              have c1 := keep (hcc 1 _ rfl)
              have c2 := keep (hcc 2 _ rfl)
              have c3 := keep (hcc 3 _ rfl)
              have c4 := keep (hcc 4 _ rfl)
              have c5 := keep (hcc 5 _ rfl)
              have c6 := keep (hcc 6 _ rfl)
              have c7 := keep (hcc 7 _ rfl)
              have c8 := keep (hcc 8 _ rfl)
              have c9 := keep (hcc 9 _ rfl)
              have c10 := keep (hcc 10 _ rfl)
              have c11 := keep (hcc 11 _ rfl)
              rw [Nat.add_zero] at c0
              clear hcc
              have HXE := Lib.hid (show (L.take (k + 1)).flatMap EntV.bytes = (L.take k).flatMap EntV.bytes ++ ([x.phase] ++ x.pod.bytes) by rw [List.take_add_one, hx]; simp [List.flatMap_append, EntV.bytes])
              have hen := HEN.out x (List.mem_of_getElem? hx)
              unfold entB at hen
              rw [Bool.and_eq_true] at hen
              have hrp := hen.1
              have hph : 1 ≤ x.phase ∧ x.phase ≤ 3 := by have := hen.2; unfold phB at this; simpa using this
              have hbb := bytes_bd hrp
              obtain ⟨nb, hnb⟩ : ∃ m, x.pod.bytes.length = m := ⟨_, rfl⟩
              rw [hnb] at hbb
              have CP := Lib.hid (fun v => put_own x.pod v (HOK.out x (List.mem_of_getElem? hx)).1 hrp nb hnb)
              have HTL := Lib.hid (show ((L.take k).flatMap EntV.bytes).length ≤ 64 * 116 from ents_len (fun y hy => HEN.out y (List.mem_of_mem_take hy)) (by rw [List.length_take]; omega))
              have HNB := Lib.hid hnb
              obtain ⟨ph, hphv⟩ : ∃ z, x.phase = z := ⟨_, rfl⟩
              rw [hphv] at hph HXE
              have c11b : ∀ w, Below wr.heap.size wr w → w.cell? ⟨bc, oc + k * 12 + 11, none⟩ = some (.int .i64 ph) := hphv ▸ c11
              clear hx hen hrp hnb c11
              have hup : IntKind.u8.wrap ph = ph := IntWalk.u8_in _ (by omega)
              obtain ⟨pre, hpre⟩ : ∃ l, hd ++ (L.take k).flatMap EntV.bytes = l := ⟨_, rfl⟩
              have hpl : pre.length ≤ 10 + 64 * 116 := by rw [← hpre, List.length_append, hhl]; have := HTL.out; omega
              rw [hpre] at HO
              have HPRE := Lib.hid hpre
              clear hpre HTL
              have HLT := Lib.hid (fun q h => (World.ownsRow.lt HO.out q h).2)
              have hbel : Below wr.heap.size wr wr := Below.refl _ _
              have hw : Below wr.heap.size wr wr := Below.refl _ _
              go_upto_region 19 with fail
              have ee0 : (wr.alloc (.cells #[.string x.pod.id, .int .i64 x.pod.prio, .bool x.pod.crit, .int .i64 x.pod.r0, .int .i64 x.pod.r1, .int .i64 x.pod.r2, .int .i64 x.pod.l0, .int .i64 x.pod.l1, .int .i64 x.pod.l2, .string x.pod.img, .int .i64 x.pod.size, .int .i64 ph] 46)).cell? ⟨wr.heap.size, 0, none⟩ = some (.string x.pod.id) := by first | (simp; done) | (rw [World.cell?_alloc_at _ _ _ _ (by simp)]; rfl) | (rw [World.cell?_alloc_past _ _ _ (by simp <;> omega), World.cell?_alloc_at _ _ _ _ (by simp)]; rfl) | (rw [World.cell?_alloc_past _ _ _ (by simp <;> omega), World.cell?_alloc_past _ _ _ (by simp <;> omega), World.cell?_alloc_at _ _ _ _ (by simp)]; rfl)
              have ee1 : (wr.alloc (.cells #[.string x.pod.id, .int .i64 x.pod.prio, .bool x.pod.crit, .int .i64 x.pod.r0, .int .i64 x.pod.r1, .int .i64 x.pod.r2, .int .i64 x.pod.l0, .int .i64 x.pod.l1, .int .i64 x.pod.l2, .string x.pod.img, .int .i64 x.pod.size, .int .i64 ph] 46)).cell? ⟨wr.heap.size, 1, none⟩ = some (.int .i64 x.pod.prio) := by first | (simp; done) | (rw [World.cell?_alloc_at _ _ _ _ (by simp)]; rfl) | (rw [World.cell?_alloc_past _ _ _ (by simp <;> omega), World.cell?_alloc_at _ _ _ _ (by simp)]; rfl) | (rw [World.cell?_alloc_past _ _ _ (by simp <;> omega), World.cell?_alloc_past _ _ _ (by simp <;> omega), World.cell?_alloc_at _ _ _ _ (by simp)]; rfl)
              have ee2 : (wr.alloc (.cells #[.string x.pod.id, .int .i64 x.pod.prio, .bool x.pod.crit, .int .i64 x.pod.r0, .int .i64 x.pod.r1, .int .i64 x.pod.r2, .int .i64 x.pod.l0, .int .i64 x.pod.l1, .int .i64 x.pod.l2, .string x.pod.img, .int .i64 x.pod.size, .int .i64 ph] 46)).cell? ⟨wr.heap.size, 2, none⟩ = some (.bool x.pod.crit) := by first | (simp; done) | (rw [World.cell?_alloc_at _ _ _ _ (by simp)]; rfl) | (rw [World.cell?_alloc_past _ _ _ (by simp <;> omega), World.cell?_alloc_at _ _ _ _ (by simp)]; rfl) | (rw [World.cell?_alloc_past _ _ _ (by simp <;> omega), World.cell?_alloc_past _ _ _ (by simp <;> omega), World.cell?_alloc_at _ _ _ _ (by simp)]; rfl)
              have ee3 : (wr.alloc (.cells #[.string x.pod.id, .int .i64 x.pod.prio, .bool x.pod.crit, .int .i64 x.pod.r0, .int .i64 x.pod.r1, .int .i64 x.pod.r2, .int .i64 x.pod.l0, .int .i64 x.pod.l1, .int .i64 x.pod.l2, .string x.pod.img, .int .i64 x.pod.size, .int .i64 ph] 46)).cell? ⟨wr.heap.size, 3, none⟩ = some (.int .i64 x.pod.r0) := by first | (simp; done) | (rw [World.cell?_alloc_at _ _ _ _ (by simp)]; rfl) | (rw [World.cell?_alloc_past _ _ _ (by simp <;> omega), World.cell?_alloc_at _ _ _ _ (by simp)]; rfl) | (rw [World.cell?_alloc_past _ _ _ (by simp <;> omega), World.cell?_alloc_past _ _ _ (by simp <;> omega), World.cell?_alloc_at _ _ _ _ (by simp)]; rfl)
              have ee4 : (wr.alloc (.cells #[.string x.pod.id, .int .i64 x.pod.prio, .bool x.pod.crit, .int .i64 x.pod.r0, .int .i64 x.pod.r1, .int .i64 x.pod.r2, .int .i64 x.pod.l0, .int .i64 x.pod.l1, .int .i64 x.pod.l2, .string x.pod.img, .int .i64 x.pod.size, .int .i64 ph] 46)).cell? ⟨wr.heap.size, 4, none⟩ = some (.int .i64 x.pod.r1) := by first | (simp; done) | (rw [World.cell?_alloc_at _ _ _ _ (by simp)]; rfl) | (rw [World.cell?_alloc_past _ _ _ (by simp <;> omega), World.cell?_alloc_at _ _ _ _ (by simp)]; rfl) | (rw [World.cell?_alloc_past _ _ _ (by simp <;> omega), World.cell?_alloc_past _ _ _ (by simp <;> omega), World.cell?_alloc_at _ _ _ _ (by simp)]; rfl)
              have ee5 : (wr.alloc (.cells #[.string x.pod.id, .int .i64 x.pod.prio, .bool x.pod.crit, .int .i64 x.pod.r0, .int .i64 x.pod.r1, .int .i64 x.pod.r2, .int .i64 x.pod.l0, .int .i64 x.pod.l1, .int .i64 x.pod.l2, .string x.pod.img, .int .i64 x.pod.size, .int .i64 ph] 46)).cell? ⟨wr.heap.size, 5, none⟩ = some (.int .i64 x.pod.r2) := by first | (simp; done) | (rw [World.cell?_alloc_at _ _ _ _ (by simp)]; rfl) | (rw [World.cell?_alloc_past _ _ _ (by simp <;> omega), World.cell?_alloc_at _ _ _ _ (by simp)]; rfl) | (rw [World.cell?_alloc_past _ _ _ (by simp <;> omega), World.cell?_alloc_past _ _ _ (by simp <;> omega), World.cell?_alloc_at _ _ _ _ (by simp)]; rfl)
              have ee6 : (wr.alloc (.cells #[.string x.pod.id, .int .i64 x.pod.prio, .bool x.pod.crit, .int .i64 x.pod.r0, .int .i64 x.pod.r1, .int .i64 x.pod.r2, .int .i64 x.pod.l0, .int .i64 x.pod.l1, .int .i64 x.pod.l2, .string x.pod.img, .int .i64 x.pod.size, .int .i64 ph] 46)).cell? ⟨wr.heap.size, 6, none⟩ = some (.int .i64 x.pod.l0) := by first | (simp; done) | (rw [World.cell?_alloc_at _ _ _ _ (by simp)]; rfl) | (rw [World.cell?_alloc_past _ _ _ (by simp <;> omega), World.cell?_alloc_at _ _ _ _ (by simp)]; rfl) | (rw [World.cell?_alloc_past _ _ _ (by simp <;> omega), World.cell?_alloc_past _ _ _ (by simp <;> omega), World.cell?_alloc_at _ _ _ _ (by simp)]; rfl)
              have ee7 : (wr.alloc (.cells #[.string x.pod.id, .int .i64 x.pod.prio, .bool x.pod.crit, .int .i64 x.pod.r0, .int .i64 x.pod.r1, .int .i64 x.pod.r2, .int .i64 x.pod.l0, .int .i64 x.pod.l1, .int .i64 x.pod.l2, .string x.pod.img, .int .i64 x.pod.size, .int .i64 ph] 46)).cell? ⟨wr.heap.size, 7, none⟩ = some (.int .i64 x.pod.l1) := by first | (simp; done) | (rw [World.cell?_alloc_at _ _ _ _ (by simp)]; rfl) | (rw [World.cell?_alloc_past _ _ _ (by simp <;> omega), World.cell?_alloc_at _ _ _ _ (by simp)]; rfl) | (rw [World.cell?_alloc_past _ _ _ (by simp <;> omega), World.cell?_alloc_past _ _ _ (by simp <;> omega), World.cell?_alloc_at _ _ _ _ (by simp)]; rfl)
              have ee8 : (wr.alloc (.cells #[.string x.pod.id, .int .i64 x.pod.prio, .bool x.pod.crit, .int .i64 x.pod.r0, .int .i64 x.pod.r1, .int .i64 x.pod.r2, .int .i64 x.pod.l0, .int .i64 x.pod.l1, .int .i64 x.pod.l2, .string x.pod.img, .int .i64 x.pod.size, .int .i64 ph] 46)).cell? ⟨wr.heap.size, 8, none⟩ = some (.int .i64 x.pod.l2) := by first | (simp; done) | (rw [World.cell?_alloc_at _ _ _ _ (by simp)]; rfl) | (rw [World.cell?_alloc_past _ _ _ (by simp <;> omega), World.cell?_alloc_at _ _ _ _ (by simp)]; rfl) | (rw [World.cell?_alloc_past _ _ _ (by simp <;> omega), World.cell?_alloc_past _ _ _ (by simp <;> omega), World.cell?_alloc_at _ _ _ _ (by simp)]; rfl)
              have ee9 : (wr.alloc (.cells #[.string x.pod.id, .int .i64 x.pod.prio, .bool x.pod.crit, .int .i64 x.pod.r0, .int .i64 x.pod.r1, .int .i64 x.pod.r2, .int .i64 x.pod.l0, .int .i64 x.pod.l1, .int .i64 x.pod.l2, .string x.pod.img, .int .i64 x.pod.size, .int .i64 ph] 46)).cell? ⟨wr.heap.size, 9, none⟩ = some (.string x.pod.img) := by first | (simp; done) | (rw [World.cell?_alloc_at _ _ _ _ (by simp)]; rfl) | (rw [World.cell?_alloc_past _ _ _ (by simp <;> omega), World.cell?_alloc_at _ _ _ _ (by simp)]; rfl) | (rw [World.cell?_alloc_past _ _ _ (by simp <;> omega), World.cell?_alloc_past _ _ _ (by simp <;> omega), World.cell?_alloc_at _ _ _ _ (by simp)]; rfl)
              have ee10 : (wr.alloc (.cells #[.string x.pod.id, .int .i64 x.pod.prio, .bool x.pod.crit, .int .i64 x.pod.r0, .int .i64 x.pod.r1, .int .i64 x.pod.r2, .int .i64 x.pod.l0, .int .i64 x.pod.l1, .int .i64 x.pod.l2, .string x.pod.img, .int .i64 x.pod.size, .int .i64 ph] 46)).cell? ⟨wr.heap.size, 10, none⟩ = some (.int .i64 x.pod.size) := by first | (simp; done) | (rw [World.cell?_alloc_at _ _ _ _ (by simp)]; rfl) | (rw [World.cell?_alloc_past _ _ _ (by simp <;> omega), World.cell?_alloc_at _ _ _ _ (by simp)]; rfl) | (rw [World.cell?_alloc_past _ _ _ (by simp <;> omega), World.cell?_alloc_past _ _ _ (by simp <;> omega), World.cell?_alloc_at _ _ _ _ (by simp)]; rfl)
              have ee11 : (wr.alloc (.cells #[.string x.pod.id, .int .i64 x.pod.prio, .bool x.pod.crit, .int .i64 x.pod.r0, .int .i64 x.pod.r1, .int .i64 x.pod.r2, .int .i64 x.pod.l0, .int .i64 x.pod.l1, .int .i64 x.pod.l2, .string x.pod.img, .int .i64 x.pod.size, .int .i64 ph] 46)).cell? ⟨wr.heap.size, 11, none⟩ = some (.int .i64 ph) := by first | (simp; done) | (rw [World.cell?_alloc_at _ _ _ _ (by simp)]; rfl) | (rw [World.cell?_alloc_past _ _ _ (by simp <;> omega), World.cell?_alloc_at _ _ _ _ (by simp)]; rfl) | (rw [World.cell?_alloc_past _ _ _ (by simp <;> omega), World.cell?_alloc_past _ _ _ (by simp <;> omega), World.cell?_alloc_at _ _ _ _ (by simp)]; rfl)
              have hb2 := (by repeat (first | exact hbel | refine belAlloc ?_ _ | refine belDrew ?_ | refine belSet ?_ _ _ (by simp)) : Below wr.heap.size wr (wr.alloc (.cells #[.string x.pod.id, .int .i64 x.pod.prio, .bool x.pod.crit, .int .i64 x.pod.r0, .int .i64 x.pod.r1, .int .i64 x.pod.r2, .int .i64 x.pod.l0, .int .i64 x.pod.l1, .int .i64 x.pod.l2, .string x.pod.img, .int .i64 x.pod.size, .int .i64 ph] 46)))
              replace c0 := keepOnP c0 hb2
              replace c1 := keepOnP c1 hb2
              replace c2 := keepOnP c2 hb2
              replace c3 := keepOnP c3 hb2
              replace c4 := keepOnP c4 hb2
              replace c5 := keepOnP c5 hb2
              replace c6 := keepOnP c6 hb2
              replace c7 := keepOnP c7 hb2
              replace c8 := keepOnP c8 hb2
              replace c9 := keepOnP c9 hb2
              replace c10 := keepOnP c10 hb2
              replace c11b := keepOnP c11b hb2
              replace hw := belStep hw hb2
              clear hb2 hbel
              generalize wr.alloc (.cells #[.string x.pod.id, .int .i64 x.pod.prio, .bool x.pod.crit, .int .i64 x.pod.r0, .int .i64 x.pod.r1, .int .i64 x.pod.r2, .int .i64 x.pod.l0, .int .i64 x.pod.l1, .int .i64 x.pod.l2, .string x.pod.img, .int .i64 x.pod.size, .int .i64 ph] 46) = W5 at *
              replace ee0 := keep ee0
              replace ee1 := keep ee1
              replace ee2 := keep ee2
              replace ee3 := keep ee3
              replace ee4 := keep ee4
              replace ee5 := keep ee5
              replace ee6 := keep ee6
              replace ee7 := keep ee7
              replace ee8 := keep ee8
              replace ee9 := keep ee9
              replace ee10 := keep ee10
              replace ee11 := keep ee11
              have hbel : Below W5.heap.size W5 W5 := Below.refl _ _
              skip
              have HV5 := Lib.hid hw
              have HW5 := Lib.hid (belStep hbr hw)
              have hs5 := hw.size
              clear hw hbr
              go_upto_region 20 with (go_at_call 33; (with_reducible refine (CP.out _).mono ?_); rintro e w6 ⟨pg, pc, rfl, ⟨hpc1, hpc2⟩, hpg, hpi, hpb⟩)
              have HPI := Lib.hid hpi
              replace hbel := belStep hbel hpb
              have ee := ee11 w6 hbel
              have HBW := Lib.hid (belStep HW5.out hbel)
              have HO3 := Lib.hid (HO.out.later (belStep HV5.out hbel))
              have hs6 := HBW.out.size
              clear hpi hpb HO hbel c0 c1 c2 c3 c4 c5 c6 c7 c8 c9 c10 c11b ee0 ee1 ee2 ee3 ee4 ee5 ee6 ee7 ee8 ee9 ee10 ee11
              have HT := Lib.hid (show Ints .u8 (w6.alloc (.cells #[.int .u8 ph] 5)) (some ⟨w6.heap.size, 0, none⟩) 1 1 [ph] from ints_new (k := .u8) w6 [ph] 5 (0, 0) (by unfold maxLen; simp) (fun m hm => by simp at hm; subst hm; exact WalkArith.wf_u8 ⟨by omega, by omega⟩))
              have HO4 := Lib.hid (OwnI.alloc HO3.out (.cells #[.int .u8 ph] 5))
              have hbA := belAlloc HBW.out (.cells #[.int .u8 ph] 5)
              have hsA := hbA.size
              clear HO3
              go_wp2_with (at_builtin; refine wpList_app_ints rfl _ _ 28 rfl W2.heap.size 5 .u8 1 Try.underlying28 info_u8 _ _ rfl HO4.out _ 1 1 ([ph]) rfl (HT.out) ?c1 ?c2 ?c3 ?_)
              case c1 => simp only [maxLen]; omega
              case c2 => omega
              case c3 => first | exact hsA | (have := HBW.out.size; omega)
              intro v7 w7 ho7 hb7 hg7
              have HO7 := Lib.hid ho7
              have hb7a := hbA.trans hb7
              have hs7 := hb7a.size
              have hl7 : (pre ++ [ph]).length = pre.length + 1 := by rw [List.length_append]; rfl
              have HPI7 := Lib.hid (show Ints .u8 w7 (some ⟨pg, 0, none⟩) nb pc x.pod.bytes from ⟨row_grownS (HPI.out.later (belAlloc (Below.refl w6.heap.size w6) (.cells #[.int .u8 ph] 5))).1 hg7 (fun e => by have h1 := HLT.out pg e; have h2 := hpg.1; omega) (by have h2 := hpg.2; simp; omega), HPI.out.2⟩)
              clear ho7 HT HO4 hsA hb7 hg7
              go_wp2_with (at_builtin; refine wpList_app_ints rfl _ _ 28 rfl W2.heap.size 5 .u8 1 Try.underlying28 info_u8 _ _ rfl HO7.out _ nb pc (x.pod.bytes) rfl (HPI7.out) ?c1 ?c2 ?c3 ?_)
              case c1 => simp only [maxLen]; omega
              case c2 => omega
              case c3 => exact hs7
              intro v8 w8 ho8 hb8 hg8
              have HO8 := Lib.hid ho8
              have HB8 := Lib.hid (hb7a.trans hb8)
              clear ho8 hb8 hg8 hb7a hs7
              go_wp2
              go_roundw
              case rel => exact ⟨k + 1, by omega, by push_cast; rfl, by rw [HXE.out, ← List.append_assoc, HPRE.out]; simpa using HO8.out, HB8.out⟩
              case measure => simp [intOf] <;> omega
            · obtain rfl : k = L.length := by omega
              have hd9 : decide ((L.length : Int) < (L.length : Int)) = false := decide_eq_false (by omega)
              have HF := Lib.hid (show hd ++ (L.take L.length).flatMap EntV.bytes = stBytes rn o L by rw [List.take_length, ← HHD.out]; unfold stBytes; rw [HFL.out]; simp)
              rw [HF.out] at HO
              go_wp2
              go_ret2
              exact ⟨_, rfl, OwnI.mono HO.out (by have := HW2.out.size; exact this), belStep HW2.out hbr⟩
end Go.Proofs.Ytpmkhimmlpnbpaa
