
/- Stage 10: alike: contract. -/
import Derived.Test.YtcnjcldfbidkmaaDkRd
import Derived.BigQuiet
namespace Go.Proofs.Ytcnjcldfbidkmaa
open Go.RowKit Go.Sort Go.Maps Go.WideMaps
set_option linter.unusedVariables false
set_option linter.unusedSimpArgs false
theorem names_step {P : ByteArray → Prop} (L : List FileM) (o : MOp) (h : ∀ f ∈ L, P f.name) (h1 : P o.name) (h2 : P o.dst) : ∀ f ∈ applyF L o, P f.name := by
  have hput : ∀ (L : List FileM) (s : ByteArray) (Z : List Int), (∀ f ∈ L, P f.name) → P s → ∀ f ∈ putF L s Z, P f.name := by
    intro L s Z hL hs f hf
    unfold putF at hf
    rcases List.mem_append.1 hf with q | q
    · exact hL f (List.mem_filter.1 q).1
    · rcases List.mem_cons.1 q with rfl | q
      · exact hs
      · exact hL f (List.mem_filter.1 q).1
  have hdel : ∀ (L : List FileM) (s : ByteArray), (∀ f ∈ L, P f.name) → ∀ f ∈ delF L s, P f.name := fun L s hL f hf => hL f (List.mem_filter.1 hf).1
  unfold applyF moveF
  split
  · exact hput _ _ _ h h1
  · split
    · split
      · exact h
      · split
        · exact h
        · exact hdel _ _ (hput _ _ _ h h2)
    · split
      · exact hdel _ _ h
      · exact h
theorem names_fold {P : ByteArray → Prop} : ∀ (D : List MOp) (L : List FileM), (∀ f ∈ L, P f.name) → (∀ o ∈ D, P o.name ∧ P o.dst) → ∀ f ∈ D.foldl applyF L, P f.name
  | [], L, h, _ => h
  | o :: D, L, h, h2 => names_fold D _ (names_step L o h (h2 o List.mem_cons_self).1 (h2 o List.mem_cons_self).2) (fun x hx => h2 x (List.mem_cons_of_mem _ hx))
theorem DAt.small {w : World} {M : Nat} {X F : List Nat} {d : DiskV} (h : DAt w M X F d) (hs : SortedF d.files) : ∀ f ∈ d.look, f.name.size ≤ maxLen := by
  obtain ⟨p, v, T, rfl, _, hp, _, hT, hz, _⟩ := h
  refine names_fold (P := fun s => s.size ≤ maxLen) d.done d.files ?_ ?_
  · rcases hp with ⟨_, e⟩ | ⟨mb, n, D, _, _, hm, hl, _⟩
    · rw [e]; intro f hf; cases hf
    · intro f hf
      have h1 := (names_perm hm hl hs).subset (List.mem_map.2 ⟨f, hf, rfl⟩)
      have h2 := strKeys_le hm Try.underlying9 _ h1
      rw [ByteArray.toList_eq, Array.length_toList] at h2
      exact h2
  · intro o ho
    rw [← hT] at ho
    obtain ⟨x, hx, rfl⟩ := List.mem_map.1 ho
    exact ⟨(hz x hx).2.1, (hz x hx).2.2.1⟩
theorem DKv.small {B : Nat} {w : World} {M : Nat} {X : List Nat} {d : DiskV} (h : DKv B w M X d) (hs : SortedF d.files) : ∀ f ∈ d.look, f.name.size ≤ maxLen := by
  obtain ⟨F, h1, _⟩ := h
  exact h1.small hs
theorem row_cell {w : World} {a : Option Addr} {n c : Nat} {cs : List Value} (h : Row w a n c 1 cs) {k : Nat} {v : Value} (hk : cs[k]? = some v) : ∃ b o, a = some ⟨b, o, none⟩ ∧ w.cell? ⟨b, o + k, none⟩ = some v := by
  obtain ⟨_, _, _, _, h5⟩ := h
  have hl : k < cs.length := by rw [List.getElem?_eq_some_iff] at hk; exact hk.1
  rcases h5 with h5 | ⟨b, o, e, h5⟩
  · rw [h5] at hl; simp at hl
  · refine ⟨b, o, e, ?_⟩
    rw [← hk]; exact h5 k hl
theorem row_cell_at {w : World} {b o n c : Nat} {cs : List Value} (h : Row w (some ⟨b, o, none⟩) n c 1 cs) {k : Nat} {v : Value} (hk : cs[k]? = some v) : w.cell? ⟨b, o + k, none⟩ = some v := by
  obtain ⟨b2, o2, e, h2⟩ := row_cell h hk
  simp only [Option.some.injEq, Addr.mk.injEq, and_true] at e
  obtain ⟨rfl, rfl⟩ := e
  exact h2
set_option maxRecDepth 100000 in
set_option maxHeartbeats 16000000 in
theorem dl_alike (B M N : Nat) (X Y : List Nat) (d c : DiskV) (w : World) (hd : DKv B w M X d) (he : DKv B w N Y c) (hB : B ≤ w.heap.size) (hc : d.cap + d.done.length ≤ 100000) (hc2 : c.cap + c.done.length ≤ 100000) (hs : SortedF d.files) (hs2 : SortedF c.files) (heq : d.look = c.look) :
    Calls Try.prog 43 #[.pointer (some ⟨M, 0, none⟩), .pointer (some ⟨N, 0, none⟩)] w fun e w' => e = .returned (.bool true) ∧ Below w.heap.size w w' := by
  have hw : Below w.heap.size w w := Below.refl _ _
  have HD := Lib.hid hd
  have HE := Lib.hid he
  have HQ := Lib.hid heq
  have HSM := Lib.hid (hd.small hs)
  have HS := Lib.hid hs
  have HS2 := Lib.hid hs2
  obtain ⟨L, hL⟩ : ∃ L, d.look = L := ⟨_, rfl⟩
  have HL := Lib.hid hL
  rw [hL] at heq HSM
  have HL2 := Lib.hid heq.symm
  have HSL := Lib.hid (show SortedF L from hL ▸ sorted_look hs)
  clear hd he heq hL
  have N1 := Lib.hid (show Calls Try.prog 44 #[.pointer (some ⟨M, 0, none⟩)] w (fun e w' => ∃ a c, e = .returned (.slice a L.length c) ∧ L.length ≤ c ∧ c ≤ 9223372036854775807 ∧ Row w' a L.length c 1 (L.map (fun f => .string f.name)) ∧ Below w.heap.size w w') from (dl_Names B M X d w HD.out hB hc HS.out).mono (by rw [HL.out]; rintro e wq ⟨v, rfl, h1, _, h3⟩; obtain ⟨a, c, rfl, hr⟩ := rowR_of_own h1; exact ⟨a, c, rfl, hr.2.1, (by have := hr.2.2.1; unfold maxLen at this; omega), hr, h3⟩))
  have N2 := Lib.hid (fun u (hu : Below w.heap.size w u) => show Calls Try.prog 44 #[.pointer (some ⟨N, 0, none⟩)] u (fun e w' => ∃ a c, e = .returned (.slice a L.length c) ∧ L.length ≤ c ∧ c ≤ 9223372036854775807 ∧ Row w' a L.length c 1 (L.map (fun f => .string f.name)) ∧ Below u.heap.size u w') from (dl_Names B N Y c u (HE.out.later hu) (Nat.le_trans hB hu.size) hc2 HS2.out).mono (by rw [HL2.out]; rintro e wq ⟨v, rfl, h1, _, h3⟩; obtain ⟨a, c, rfl, hr⟩ := rowR_of_own h1; exact ⟨a, c, rfl, hr.2.1, (by have := hr.2.2.1; unfold maxLen at this; omega), hr, h3⟩))
  go_enter Try.func43, Try.ntmps43
  go_upto_region 2 with (go_at_call 44; (with_reducible refine (N1.out).mono ?_); rintro e w1 ⟨xa, xc, rfl, hx1, hx2, hr_, hb_⟩; have HR1 := Lib.hid hr_; have hbel := hb_; clear hr_ hb_)
  go_upto_region 3 with (go_at_call 44; (with_reducible refine (N2.out _ hbel).mono ?_); rintro e w2 ⟨ya, yc, rfl, hy1, hy2, hr_, hb_⟩; have HR2 := Lib.hid hr_; have HR1b := Lib.hid (HR1.out.later hb_); have HBL := Lib.hid (belStep hbel hb_); clear hr_ hb_ hbel HR1 N1 N2)
  have hLn : L.length ≤ 9223372036854775807 := by omega
  clear hw
  have hbel0 := HBL.out
  go_wp2
  go_loopw [7] (fun iv wr => ∃ k : Nat, k ≤ L.length ∧ iv = .int .i64 k ∧ Below w2.heap.size w2 wr) (fun iv _ => L.length - (intOf iv).toNat)
  case atStart => exact ⟨0, Nat.zero_le _, rfl, Below.refl _ _⟩
  case round =>
    clear hbel0
    obtain ⟨k, hk, rfl, hbel⟩ := hrel
    by_cases hlt : k < L.length
    · have hd : decide ((k : Int) < (L.length : Int)) = true := decide_eq_true (by omega)
      have hki : (k : Int) < (L.length : Int) := by omega
      have hk0 : (0 : Int) ≤ (k : Int) := by omega
      obtain ⟨f, hf⟩ : ∃ f, L[k]? = some f := ⟨L[k], List.getElem?_eq_getElem hlt⟩
      have HF := Lib.hid hf
      have hcx : (L.map (fun f => Value.string f.name))[k]? = some (.string f.name) := by rw [List.getElem?_map, hf]; rfl
      have hget := (getF_mem HSL.out).1 (List.mem_of_getElem? hf)
      have hsz := HSM.out f (List.mem_of_getElem? hf)
      obtain ⟨bx, ox, rfl, _⟩ := row_cell HR1b.out hcx
      obtain ⟨by_, oy, rfl, _⟩ := row_cell HR2.out hcx
      have K1 := Lib.hid (fun u (hu : Below w2.heap.size w2 u) => row_cell_at (HR1b.out.later hu) hcx)
      have K2 := Lib.hid (fun u (hu : Below w2.heap.size w2 u) => row_cell_at (HR2.out.later hu) hcx)
      clear hcx hf
      have x0 := K1.out _ hbel
      have R1 := Lib.hid (fun u (hu : Below w2.heap.size w2 u) => show Calls Try.prog 45 #[.pointer (some ⟨M, 0, none⟩), .string f.name] u (fun e w' => ∃ a c z, e = .returned (.tuple #[.slice a f.Z.length c, z]) ∧ Ints .u8 w' a f.Z.length c f.Z ∧ Below u.heap.size u w') from (dl_Read B M X d u (HD.out.later (belStep HBL.out hu)) (Nat.le_trans hB (belStep HBL.out hu).size) hc f.name hsz).mono (by rw [HL.out, hget]; rintro e wq ⟨a, c, rfl, h1, _, _, _, h3⟩; exact ⟨a, c, _, rfl, h1, h3⟩))
      have R2 := Lib.hid (fun u (hu : Below w2.heap.size w2 u) => show Calls Try.prog 45 #[.pointer (some ⟨N, 0, none⟩), .string f.name] u (fun e w' => ∃ a c z, e = .returned (.tuple #[.slice a f.Z.length c, z]) ∧ Ints .u8 w' a f.Z.length c f.Z ∧ Below u.heap.size u w') from (dl_Read B N Y c u (HE.out.later (belStep HBL.out hu)) (Nat.le_trans hB (belStep HBL.out hu).size) hc2 f.name hsz).mono (by rw [HL2.out, hget]; rintro e wq ⟨a, c, rfl, h1, _, _, _, h3⟩; exact ⟨a, c, _, rfl, h1, h3⟩))
      clear hget hsz
      go_upto_region 9 with (go_at_call 45; (with_reducible refine (R1.out _ hbel).mono ?_); rintro e w3 ⟨pa, pc, pz, rfl, hi_, hb_⟩; have HI1 := Lib.hid hi_; have hbz := belStep hbel hb_; clear hbel; have hbel := hbz; clear hi_ hb_ hbz)
      clear x0
      have x0 := K1.out _ hbel
      go_upto_region 10 with (go_at_call 45; (with_reducible refine (R2.out _ hbel).mono ?_); rintro e w4 ⟨qa, qc, qz, rfl, hi_, hb_⟩; have HI2 := Lib.hid hi_; have HI1b := Lib.hid (HI1.out.later hb_); have hbz := belStep hbel hb_; clear hbel; have hbel := hbz; clear hi_ hb_ hbz HI1)
      clear x0
      have x0 := K1.out _ hbel
      have y0 := K2.out _ hbel
      have hv1 := fun n => conv_str (HI1b.out.later (belDrewN (Below.refl w4.heap.size w4) n))
      have hv2 := fun n => conv_str (HI2.out.later (belDrewN (Below.refl w4.heap.size w4) n))
      have e8 := beq_self_eq_true f.name.toList
      have e9 := beq_self_eq_true (strOfNums f.Z).toList
      generalize strOfNums f.Z = sx at *
      generalize f.Z.length = fl at *
      have hkx : (k : Int) < (xc : Int) := by omega
      have hky : (k : Int) < (yc : Int) := by omega
      go_quiet (fail)
      go_wp2
      go_roundw
      case rel => exact ⟨k + 1, by omega, by push_cast; rfl, by first | exact belDrewN hbel _ | exact hbel⟩
      case measure => simp [intOf] <;> omega
    · obtain rfl : k = L.length := by omega
      have hd : decide ((L.length : Int) < (L.length : Int)) = false := decide_eq_false (by omega)
      go_wp2
      go_ret
      exact ⟨rfl, belStep HBL.out hbel⟩
end Go.Proofs.Ytcnjcldfbidkmaa
