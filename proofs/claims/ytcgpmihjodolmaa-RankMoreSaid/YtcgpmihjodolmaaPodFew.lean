
/- Few pods; a pod is itself. -/
import Derived.Test.YtcgpmihjodolmaaPodRef
namespace Go.Proofs.Ytcgpmihjodolmaa
open Go.RowKit
set_option linter.unusedVariables false
set_option linter.unusedSimpArgs false

theorem PodV.right_pos (p : PodV) (h : rightB p = true) : 0 ≤ p.r0 ∧ 0 ≤ p.r1 ∧ 0 ≤ p.r2 := by
  unfold rightB okr at h
  simp at h
  omega

set_option maxHeartbeats 1000000 in
theorem eq_pod_same (p : PodV) (w : World) : (Op.equalIn 10000 62 (.agg #[.string p.id, .int .i64 p.prio, .bool p.crit, .int .i64 p.r0, .int .i64 p.r1, .int .i64 p.r2, .int .i64 p.l0, .int .i64 p.l1, .int .i64 p.l2, .string p.img, .int .i64 p.size]) (.agg #[.string p.id, .int .i64 p.prio, .bool p.crit, .int .i64 p.r0, .int .i64 p.r1, .int .i64 p.r2, .int .i64 p.l0, .int .i64 p.l1, .int .i64 p.l2, .string p.img, .int .i64 p.size])).run Try.prog w = .ok true w := by
  have hs : Try.prog.fieldsOf 62 = #[{ name := "Id", type := 9, offset := 0, embedded := false, tag := "", pkgPath := "", byteOffset := 0 }, { name := "Prio", type := 3, offset := 1, embedded := false, tag := "", pkgPath := "", byteOffset := 16 }, { name := "Critical", type := 4, offset := 2, embedded := false, tag := "", pkgPath := "", byteOffset := 24 }, { name := "Req", type := 29, offset := 3, embedded := false, tag := "", pkgPath := "", byteOffset := 32 }, { name := "Lim", type := 29, offset := 6, embedded := false, tag := "", pkgPath := "", byteOffset := 56 }, { name := "Image", type := 9, offset := 9, embedded := false, tag := "", pkgPath := "", byteOffset := 80 }, { name := "Size", type := 3, offset := 10, embedded := false, tag := "", pkgPath := "", byteOffset := 96 }] := by kernel_rfl
  have h3 : ∀ e (a b c : Int) (v : World), (Op.equalIn (e + 2) 29 (.agg #[.int .i64 a, .int .i64 b, .int .i64 c]) (.agg #[.int .i64 a, .int .i64 b, .int .i64 c])).run Try.prog v = .ok true v := by
    intro e a b c v
    rw [Op.equalIn]
    simp [run_underlying Try.underlying29, go_sem]
    rw [show List.range' 0 3 = [0, 1, 2] from rfl]
    simp [List.forIn_cons, go_sem]
  rw [run_equalIn_struct _ _ _ _ _ (by kernel_rfl) (by kernel_rfl), hs]
  simp [go_sem, h3]

def fewB (L : List PodV) : Bool := (L.take (min L.length 200)).all smallB && decide (L.length ≤ 100)
theorem all_next (f : PodV → Bool) (L : List PodV) {k : Nat} {p : PodV} (h : L[k]? = some p) : (L.take (k + 1)).all f = ((L.take k).all f && f p) := by
  have hk : k < L.length := (List.getElem?_eq_some_iff.1 h).1
  have e : L[k] = p := by rw [List.getElem?_eq_getElem hk] at h; exact Option.some.inj h
  rw [List.take_succ_eq_append_getElem hk, e, List.all_append]; simp
theorem all_not (f : PodV → Bool) (L : List PodV) {k n : Nat} {p : PodV} (h : L[k]? = some p) (hf : f p = false) (hk : k < n) : (L.take n).all f = false := by
  rw [List.all_eq_false]
  have hl : k < L.length := (List.getElem?_eq_some_iff.1 h).1
  have e : L[k] = p := by rw [List.getElem?_eq_getElem hl] at h; exact Option.some.inj h
  exact ⟨p, by rw [← e]; exact List.mem_take_iff_getElem.2 ⟨k, by omega, rfl⟩, by simp [hf]⟩

set_option maxRecDepth 100000 in
set_option maxHeartbeats 4000000 in
theorem pref_Few (a : Option Addr) (len cap : Nat) (L : List PodV) (w : World) (hl : L.length = len) (hok : ∀ x ∈ L, x.ok) (hR : Row w a len cap 11 (L.flatMap PodV.cells)) :
    Calls Try.prog 51 #[.slice a len cap] w fun e w' => e = .returned (.bool (fewB L)) ∧ Below w.heap.size w w' := by
  have hbd : len ≤ cap ∧ cap ≤ 9223372036854775807 := by obtain ⟨_, h1, h2, _⟩ := hR; unfold maxLen at h2; exact ⟨h1, h2⟩
  obtain ⟨hbd1, hbd2⟩ := hbd
  have HR := Lib.hid hR
  have HO := Lib.hid hok
  clear hR hok
  subst hl
  go_enter Try.func51, Try.ntmps51
  go_wp2
  go_loopw [3] (fun i wr => ∃ k : Nat, k ≤ L.length ∧ k ≤ 200 ∧ i = .int .i64 k ∧ (L.take k).all smallB = true ∧ Below w.heap.size w wr) (fun i _ => L.length - (intOf i).toNat)
  case atStart => exact ⟨0, Nat.zero_le _, Nat.zero_le _, rfl, rfl, Below.refl _ _⟩
  case round =>
    obtain ⟨k, hk, hk2, rfl, hst, hbr⟩ := hrel
    have hbel : Below wr.heap.size wr wr := Below.refl _ _
    have hcut : (k < L.length ∧ k < 200) ∨ ¬ (k < L.length ∧ k < 200) := by omega
    rcases hcut with ⟨hlt, hlt2⟩ | hend
    · obtain ⟨p, hx⟩ : ∃ x, L[k]? = some x := ⟨L[k], List.getElem?_eq_getElem hlt⟩
      obtain ⟨b, off, rfl, _, hc⟩ := (HR.out.later hbr).elem PodV.cells_len (by omega) hx
      have hn := all_next smallB L hx
      have hno := fun (h : smallB p = false) => all_not smallB L hx h (show k < min L.length 200 by omega)
      rw [hst] at hn
      have x0 := keep (hc 0 _ rfl)
      have x1 := keep (hc 1 _ rfl)
      have x2 := keep (hc 2 _ rfl)
      have x3 := keep (hc 3 _ rfl)
      have x4 := keep (hc 4 _ rfl)
      have x5 := keep (hc 5 _ rfl)
      have x6 := keep (hc 6 _ rfl)
      have x7 := keep (hc 7 _ rfl)
      have x8 := keep (hc 8 _ rfl)
      have x9 := keep (hc 9 _ rfl)
      have x10 := keep (hc 10 _ rfl)
      rw [Nat.add_zero] at x0
      have cs := fun v => pref_Small p v (HO.out p (List.mem_of_getElem? hx))
      clear hx hc HR HO hst
      generalize smallB p = sb at *
      have HN := Lib.hid hn
      have HF := Lib.hid hno
      have CS := Lib.hid cs
      clear hn hno cs
      cases sb
      · go_wp2_with (first | (go_at_call 36; (with_reducible refine (CS.out _).mono ?_); rintro e w1 ⟨rfl, hb1⟩; replace hbel := belStep hbel hb1; clear hb1))
        go_ret
        exact ⟨ret_bool (by unfold fewB; rw [HF.out (by trivial)]; rfl), belStep hbr hbel⟩
      · go_wp2_with (first | (go_at_call 36; (with_reducible refine (CS.out _).mono ?_); rintro e w1 ⟨rfl, hb1⟩; replace hbel := belStep hbel hb1; clear hb1))
        go_roundw
        case rel => exact ⟨k + 1, by omega, by omega, by push_cast; rfl, by rw [HN.out]; rfl, belStep hbr hbel⟩
        case measure => simp [intOf] <;> omega
    · obtain rfl : k = min L.length 200 := by omega
      have HS := Lib.hid hst
      have key : (¬ 200 ≤ L.length ∧ min L.length 200 = L.length ∧ (L.length ≤ 100 ∨ ¬ L.length ≤ 100)) ∨ (min L.length 200 = 200 ∧ ¬ L.length ≤ 100 ∧ (L.length = 200 ∨ 200 < L.length)) := by omega
      clear hst
      rcases key with ⟨k1, k2, k3⟩ | ⟨k2, k3, k1⟩
      · rcases k3 with k3 | k3
        all_goals
          simp only [k2]
          go_wp2
          go_ret
          exact ⟨ret_bool (by unfold fewB; rw [HS.out]; simp [k3] <;> omega), hbr⟩
      · rcases k1 with k1 | k1
        all_goals
          simp only [k2]
          go_wp2
          go_ret
          exact ⟨ret_bool (by unfold fewB; rw [HS.out]; simp [k3] <;> omega), hbr⟩
end Go.Proofs.Ytcgpmihjodolmaa
