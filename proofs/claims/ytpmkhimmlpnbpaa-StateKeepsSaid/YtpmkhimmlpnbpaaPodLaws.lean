
/- What the statements of layer 12 share. -/
import Derived.Test.YtpmkhimmlpnbpaaAwake12
namespace Go.Proofs.Ytpmkhimmlpnbpaa
open Go.RowKit
set_option linter.unusedVariables false
set_option linter.unusedSimpArgs false

theorem str_inj {a b : List Int} (ha : Bytes a) (hb : Bytes b) : ((strOfNums a).toList == (strOfNums b).toList) = (a == b) := by
  have key : (strOfNums a).toList = (strOfNums b).toList ↔ a = b := by
    rw [Lib.strOfNums_toList, Lib.strOfNums_toList]
    unfold Lib.bytesOf
    constructor
    · intro h
      have h1 : a.map (fun n => UInt8.ofNat n.toNat) = b.map (fun n => UInt8.ofNat n.toNat) := h
      clear h
      induction a generalizing b with
      | nil => cases b with
        | nil => rfl
        | cons y b => simp at h1
      | cons x a ih => cases b with
        | nil => simp at h1
        | cons y b =>
          simp only [List.map_cons, List.cons.injEq] at h1
          have hx := ha x List.mem_cons_self
          have hy := hb y List.mem_cons_self
          have e : x.toNat % 256 = y.toNat % 256 := by
            have := congrArg UInt8.toNat h1.1
            simpa using this
          rw [ih (fun c hc => ha c (List.mem_cons_of_mem _ hc)) (fun c hc => hb c (List.mem_cons_of_mem _ hc)) h1.2]
          congr 1; omega
    · rintro rfl; rfl
  rcases Classical.em (a = b) with h | h
  · subst h; simp
  · have h2 : (strOfNums a).toList ≠ (strOfNums b).toList := fun e => h (key.1 e)
    rw [beq_eq_false_iff_ne.2 h, beq_eq_false_iff_ne.2 h2]

set_option maxHeartbeats 1000000 in
theorem sref_Same (a : Option Addr) (len cap : Nat) (l : List Int) (b : Option Addr) (len2 cap2 : Nat) (l2 : List Int) (w : World) (hl : Ints .u8 w a len cap l) (h2 : Ints .u8 w b len2 cap2 l2) :
    Calls Try.prog 16 #[.slice a len cap, .slice b len2 cap2] w fun e w' => e = .returned (.bool (l == l2)) ∧ w = w' := by
  have c1 := conv_str hl
  have c2 := conv_str h2
  have hr := str_inj (bytes_of hl) (bytes_of h2)
  have HR := Lib.hid hr
  clear hr hl h2
  go_enter Try.func16, Try.ntmps16
  go_wp2
  go_ret
  exact ⟨ret_bool HR.out, rfl⟩

theorem put_any (p : PodV) (w : World) (hp : p.ok) (hr : rightB p = true) (n : Nat) (hn : p.bytes.length = n) : Calls Try.prog 33 #[.agg #[.string p.id, .int .i64 p.prio, .bool p.crit, .int .i64 p.r0, .int .i64 p.r1, .int .i64 p.r2, .int .i64 p.l0, .int .i64 p.l1, .int .i64 p.l2, .string p.img, .int .i64 p.size]] w fun e w' => ∃ g c, e = .returned (.tuple #[.slice (some ⟨g, 0, none⟩) n c, .int .i64 0]) ∧ (n ≤ c ∧ c ≤ 9223372036854775807) ∧ Ints .u8 w' (some ⟨g, 0, none⟩) n c p.bytes ∧ Below w.heap.size w w' := by
  refine (pod_Put p w hp hr).mono ?_
  rintro e w1 ⟨v, rfl, hown, hb⟩
  have hl := PodV.bytes_len p
  rcases hown.shape with ⟨rfl, h0⟩ | ⟨g, c, rfl, h1, h2, h3, h4⟩
  · rw [h0] at hl; simp at hl
  · obtain ⟨a, c2, e2, hi⟩ := ints_of_own hown (fun m hm => wf8 m (PodV.bytes_B (PodV.fine hr) m hm))
    simp at e2
    obtain ⟨rfl, rfl⟩ := e2
    rw [hn] at hi h3 ⊢
    exact ⟨g, c, rfl, ⟨h3, h4⟩, hi, hb⟩
theorem bytes_bd {p : PodV} (hr : rightB p = true) : 67 ≤ p.bytes.length ∧ p.bytes.length ≤ 115 := by
  have hf := PodV.fine hr
  have h1 := nameB_size hf.id
  have h2 := nameB_size hf.img
  rw [PodV.bytes_len]; omega
theorem cut_any (p : PodV) (m : List Int) (a : Option Addr) (n c lm : Nat) (w : World) (hp : p.ok) (hr : rightB p = true) (hi : Ints .u8 w a n c (p.bytes ++ m)) (hn : n ≤ 1000000) (hm : Bytes m) (hlm : m.length = lm) : Calls Try.prog 53 #[.slice a n c] w fun e w' => ∃ a2 c2, e = .returned (.tuple #[.agg #[.string p.id, .int .i64 p.prio, .bool p.crit, .int .i64 p.r0, .int .i64 p.r1, .int .i64 p.r2, .int .i64 p.l0, .int .i64 p.l1, .int .i64 p.l2, .string p.img, .int .i64 p.size], .slice a2 lm c2, .int .i64 0]) ∧ Ints .u8 w' a2 lm c2 m ∧ Below w.heap.size w w' := by
  refine (pod_Cut a n c _ w hi hn p m (cutF_put hp (PodV.fine hr) m) hr).mono ?_
  rintro e w1 ⟨v, rfl, hown, hb⟩
  obtain ⟨a2, c2, rfl, hi2⟩ := ints_of_own hown (fun x hx => wf8 x (hm x hx))
  rw [hlm] at hi2
  exact ⟨a2, c2, by rw [hlm]; rfl, hi2, hb⟩
end Go.Proofs.Ytpmkhimmlpnbpaa
