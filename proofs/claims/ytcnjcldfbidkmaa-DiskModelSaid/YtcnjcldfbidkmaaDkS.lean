
/- Stage 10: same: contract. -/
import Derived.Test.YtcnjcldfbidkmaaDkF5
import Derived.BigQuiet
namespace Go.Proofs.Ytcnjcldfbidkmaa
open Go.RowKit Go.Sort Go.Maps Go.WideMaps
set_option linter.unusedVariables false
set_option linter.unusedSimpArgs false
set_option maxRecDepth 100000 in
set_option maxHeartbeats 16000000 in
theorem dl_same (B M : Nat) (X : List Nat) (d : DiskV) (a : Option Addr) (n c : Nat) (L : List FileV) (w : World) (hd : DKv B w M X d) (hB : B ≤ w.heap.size) (hc : d.cap + d.done.length ≤ 100000) (hs : SortedF d.files) (hL : FRow w (.slice a n c) L) (heq : d.look = L.map FileV.m) :
    Calls Try.prog 40 #[.pointer (some ⟨M, 0, none⟩), .slice a n c] w fun e w' => e = .returned (.bool true) ∧ Below w.heap.size w w' := by
  have hw : Below w.heap.size w w := Below.refl _ _
  have HD := Lib.hid hd
  have HQ := Lib.hid heq
  have HS := Lib.hid hs
  have HSL := Lib.hid (sorted_look hs)
  obtain ⟨a2, c2, e2, hr, hg⟩ := hL
  simp only [Value.slice.injEq] at e2
  obtain ⟨rfl, hln, rfl⟩ := e2
  subst hln
  have HR := Lib.hid hr
  have HG := Lib.hid hg
  have hc1 : L.length ≤ c := hr.2.1
  have hc2 : c ≤ 9223372036854775807 := by have := hr.2.2.1; unfold maxLen at this; omega
  have hmm : d.look.map (fun f => Value.string f.name) = L.map (fun f => Value.string f.name) := by rw [heq, List.map_map]; rfl
  have hll : d.look.length = L.length := by rw [heq, List.length_map]
  have N1 := Lib.hid (show Calls Try.prog 44 #[.pointer (some ⟨M, 0, none⟩)] w (fun e w' => ∃ a c, e = .returned (.slice a L.length c) ∧ L.length ≤ c ∧ c ≤ 9223372036854775807 ∧ Row w' a L.length c 1 (L.map (fun f => .string f.name)) ∧ Below w.heap.size w w') from (dl_Names B M X d w HD.out hB hc HS.out).mono (by rw [hll, hmm]; rintro e wq ⟨v, rfl, h1, _, h3⟩; obtain ⟨a, c, rfl, hr⟩ := rowR_of_own h1; exact ⟨a, c, rfl, hr.2.1, (by have := hr.2.2.1; unfold maxLen at this; omega), hr, h3⟩))
  clear hd heq hr hg hmm hll
  go_enter Try.func40, Try.ntmps40
  go_upto_region 2 with (go_at_call 44; (with_reducible refine (N1.out).mono ?_); rintro e w2 ⟨xa, xc, rfl, hx1, hx2, hr_, hb_⟩; have HR1 := Lib.hid hr_; have HBL := Lib.hid hb_; clear hr_ hb_)
  clear hw N1
  have HR2 := Lib.hid (HR.out.later HBL.out)
  go_wp2
  go_loopw [6] (fun iv wr => ∃ k : Nat, k ≤ L.length ∧ iv = .int .i64 k ∧ Below w2.heap.size w2 wr) (fun iv _ => L.length - (intOf iv).toNat)
  case atStart => exact ⟨0, Nat.zero_le _, rfl, Below.refl _ _⟩
  case round =>
    obtain ⟨k, hk, rfl, hbel⟩ := hrel
    by_cases hlt : k < L.length
    · have hd : decide ((k : Int) < (L.length : Int)) = true := decide_eq_true (by omega)
      have hki : (k : Int) < (L.length : Int) := by omega
      have hk0 : (0 : Int) ≤ (k : Int) := by omega
      obtain ⟨f, hf⟩ : ∃ f, L[k]? = some f := ⟨L[k], List.getElem?_eq_getElem hlt⟩
      obtain ⟨bc, oc, ec, _, hcc⟩ := (HR2.out).elem FileV.cells_len (by omega) hf
      subst ec
      have c0 := keep (hcc 0 _ rfl)
      have c1 := keep (hcc 1 _ rfl)
      rw [Nat.add_zero] at c0
      have hcx : (L.map (fun f => Value.string f.name))[k]? = some (.string f.name) := by rw [List.getElem?_map, hf]; rfl
      have hget : getF d.look f.name = some f.Z := (getF_mem HSL.out (f := f.m)).1 (by rw [HQ.out]; exact List.mem_map.2 ⟨f, List.mem_of_getElem? hf, rfl⟩)
      have HFG := Lib.hid (HG.out f (List.mem_of_getElem? hf))
      have hsz := HFG.out.2.2
      obtain ⟨bx, ox, rfl, _⟩ := row_cell HR1.out hcx
      have K1 := Lib.hid (fun u (hu : Below w2.heap.size w2 u) => row_cell_at (HR1.out.later hu) hcx)
      have KC := Lib.hid (fun u (hu : Below w2.heap.size w2 u) => (HR2.out.later hu).elem FileV.cells_len (by omega) hf)
      clear hcx hf hcc
      have R1 := Lib.hid (fun u (hu : Below w2.heap.size w2 u) => show Calls Try.prog 45 #[.pointer (some ⟨M, 0, none⟩), .string f.name] u (fun e w' => ∃ a c, e = .returned (.tuple #[.slice a f.Z.length c, .int .i64 0]) ∧ Ints .u8 w' a f.Z.length c f.Z ∧ Below u.heap.size u w') from (dl_Read B M X d u (HD.out.later (belStep HBL.out hu)) (Nat.le_trans hB (belStep HBL.out hu).size) hc f.name hsz).mono (by rw [hget]; rintro e wq ⟨a, c, rfl, h1, _, _, _, h3⟩; exact ⟨a, c, rfl, h1, h3⟩))
      clear hget hsz
      go_upto_region 8 with (go_at_call 45; (with_reducible refine (R1.out _ hbel).mono ?_); rintro e w4 ⟨pa, pc, rfl, hi_, hb_⟩; have HI1 := Lib.hid hi_; have hbz := belStep hbel hb_; clear hbel; have hbel := hbz; clear hi_ hb_ hbz)
      clear c0 c1
      obtain ⟨bz, oz, ez, _, hcz⟩ := KC.out _ hbel
      simp only [Option.some.injEq, Addr.mk.injEq, and_true] at ez
      obtain ⟨rfl, rfl⟩ := ez
      have c0 := hcz 0 _ rfl
      have c1 := hcz 1 _ rfl
      rw [Nat.add_zero] at c0
      clear hcz
      have x0 := K1.out _ hbel
      have hv1 := fun n => conv_str (HI1.out.later (belDrewN (Below.refl w4.heap.size w4) n))
      have hv2 := fun n => conv_str ((((HFG.out.1.later HBL.out).later hbel)).later (belDrewN (Below.refl w4.heap.size w4) n))
      have e8 := beq_self_eq_true f.name.toList
      have e9 := beq_self_eq_true (strOfNums f.Z).toList
      generalize strOfNums f.Z = sx at *
      generalize f.Z.length = fl at *
      have hkx : (k : Int) < (xc : Int) := by omega
      have hky : (k : Int) < (c : Int) := by omega
      go_quiet (fail)
      go_wp2
      go_roundw
      case rel => exact ⟨k + 1, by omega, by push_cast; rfl, by first | exact belDrewN hbel _ | exact hbel⟩
      case measure => simp [intOf] <;> omega
    · obtain rfl : k = L.length := by omega
      have hd : decide ((L.length : Int) < (L.length : Int)) = false := decide_eq_false (by omega)
      go_wp2
      go_ret
      exact ⟨rfl, belStep HBL.out hbel⟩
end Go.Proofs.Ytcnjcldfbidkmaa
