/- bilgeref21.put: contract. -/
import Derived.Test.YtafojeeehehplaaVicH
namespace Go.Proofs.Ytafojeeehehplaa
open Go.RowKit
set_option linter.unusedVariables false
set_option linter.unusedSimpArgs false
/-- Texts, rising, one more: a text of the list comes up. -/
def stepQ (s : ByteArray) (r : List ByteArray × Bool) (t : ByteArray) : List ByteArray × Bool := if !r.2 && (!Op.bytesLess t.toList s.toList && !(t.toList == s.toList)) then (r.1 ++ [s] ++ [t], true) else (r.1 ++ [t], r.2)
def putF (G : List ByteArray) (s : ByteArray) : List ByteArray := let r := G.foldl (stepQ s) ([], false); if r.2 then r.1 else r.1 ++ [s]
theorem put_next {G : List ByteArray} {s t : ByteArray} {k : Nat} {r : List ByteArray × Bool} (h : G[k]? = some t) (hr : (G.take k).foldl (stepQ s) ([], false) = r) : (G.take (k + 1)).foldl (stepQ s) ([], false) = stepQ s r t := by
  rw [List.take_add_one, h, List.foldl_append, hr]
  rfl
theorem own_text {w : World} {B : Nat} {v : Value} {O : List ByteArray} {s : ByteArray} (h : OwnR w B 9 1 v (O.length + 1) (O.map Value.string ++ [.string s])) : OwnS w B v (O ++ [s]) := by
  unfold OwnS
  rw [List.map_append, List.length_append]
  exact h
theorem own_text2 {w : World} {B : Nat} {v : Value} {O : List ByteArray} {s t : ByteArray} (h : OwnR w B 9 1 v (O.length + 1 + 1) (O.map Value.string ++ [.string s, .string t])) : OwnS w B v (O ++ [s] ++ [t]) := by
  unfold OwnS
  simp only [List.map_append, List.length_append, List.append_assoc]
  exact h
set_option maxRecDepth 100000 in
set_option maxHeartbeats 16000000 in
theorem vref_put (a : Option Addr) (n cap : Nat) (G : List ByteArray) (s : ByteArray) (w : World) (hn : G.length = n) (hR : Row w a n cap 1 (G.map Value.string)) (hlen : n ≤ 1000) :
    Calls Try.prog 39 #[.slice a n cap, .string s] w fun e w' => ∃ v, e = .returned v ∧ OwnS w' w.heap.size v (putF G s) ∧ Below w.heap.size w w' := by
  have hbd : n ≤ cap ∧ cap ≤ 9223372036854775807 := by obtain ⟨_, h1, h2, _⟩ := hR; unfold maxLen at h2; exact ⟨h1, h2⟩
  obtain ⟨hbd0, hbd1⟩ := hbd
  have HR := Lib.hid hR
  clear hR
  subst hn
  have hbel : Below w.heap.size w w := Below.refl _ _
  go_enter Try.func39, Try.ntmps39
  have HB := Lib.hid hbel
  clear hbel
  go_wp2
  go_loopw [5, 6, 7] (fun o d i wr => ∃ (k : Nat) (O : List ByteArray) (D : Bool), k ≤ G.length ∧ i = .int .i64 k ∧ d = .bool D ∧ Hid ((G.take k).foldl (stepQ s) ([], false) = (O, D)) ∧ O.length ≤ 2 * k ∧ OwnS wr w.heap.size o O ∧ Below w.heap.size w wr) (fun _ _ i _ => G.length - (intOf i).toNat)
  case atStart => exact ⟨0, [], false, Nat.zero_le _, rfl, rfl, Lib.hid rfl, Nat.le_refl _, OwnR.nil _ _ _ _, HB.out⟩
  case round =>
    obtain ⟨k, O, D, hk, rfl, rfl, HE, hol, hS, hbel⟩ := hrel
    have HS := Lib.hid hS
    clear hS HB
    by_cases hlt : k < G.length
    · obtain ⟨t, ht⟩ : ∃ t, G[k]? = some t := ⟨G[k], List.getElem?_eq_getElem hlt⟩
      obtain ⟨ab, ao, rfl, ca⟩ := text_cell HR.out ht
      have x0 := keep ca
      have hd : decide ((k : Int) < (G.length : Int)) = true := decide_eq_true (by omega)
      have HNX := Lib.hid (put_next (s := s) ht HE.out)
      clear ht ca
      cases D with
      | true =>
        have HS1 := Lib.hid (OwnR.alloc (show OwnR wr w.heap.size 9 1 _ _ _ from HS.out) (.cells #[.string t] 9))
        have HRX1 := Lib.hid (row_new wr [.string t] 9 1 1 rfl (by unfold maxLen; omega))
        go_wp2_with (at_builtin; refine wpList_app_keep rfl _ _ 34 rfl w.heap.size 9 _ 1 16 Try.underlying34 info_string rfl (by decide) _ _ _ rfl HS1.out _ 1 1 [.string t] rfl HRX1.out (fun u hu => by simp at hu; subst hu; rfl) ?c1 ?c2 ?c3 ?_)
        case c1 => simp only [maxLen]; omega
        case c2 => omega
        case c3 => have h2 := hbel.size; simp; omega
        intro v1 w2 ho' _ hb' _ _
        have HO1 := Lib.hid (own_text ho')
        replace hbel := (belAlloc hbel (.cells #[.string t] 9)).trans hb'
        clear ho' hb'
        go_wp2
        go_roundw
        case rel => exact ⟨k + 1, _, _, by omega, by push_cast; rfl, rfl, Lib.hid (by rw [HNX.out]; rfl), by simp only [List.length_append, List.length_cons, List.length_nil]; omega, HO1.out, hbel⟩
        case measure => simp [intOf] <;> omega
      | false =>
        cases hb : Op.bytesLess t.toList s.toList with
        | true =>
          have HS1 := Lib.hid (OwnR.alloc (show OwnR wr w.heap.size 9 1 _ _ _ from HS.out) (.cells #[.string t] 9))
          have HRX1 := Lib.hid (row_new wr [.string t] 9 1 1 rfl (by unfold maxLen; omega))
          have HX := Lib.hid (show stepQ s (O, false) t = (O ++ [t], false) by unfold stepQ; rw [hb]; rfl)
          go_wp2_with (at_builtin; refine wpList_app_keep rfl _ _ 34 rfl w.heap.size 9 _ 1 16 Try.underlying34 info_string rfl (by decide) _ _ _ rfl HS1.out _ 1 1 [.string t] rfl HRX1.out (fun u hu => by simp at hu; subst hu; rfl) ?c1 ?c2 ?c3 ?_)
          case c1 => simp only [maxLen]; omega
          case c2 => omega
          case c3 => have h2 := hbel.size; simp; omega
          intro v1 w2 ho' _ hb' _ _
          have HO1 := Lib.hid (own_text ho')
          replace hbel := (belAlloc hbel (.cells #[.string t] 9)).trans hb'
          clear ho' hb'
          go_wp2
          go_roundw
          case rel => exact ⟨k + 1, _, _, by omega, by push_cast; rfl, rfl, Lib.hid (by rw [HNX.out, HX.out]), by simp only [List.length_append, List.length_cons, List.length_nil]; omega, HO1.out, hbel⟩
          case measure => simp [intOf] <;> omega
        | false =>
          cases he : (t.toList == s.toList) with
          | true =>
            have HS1 := Lib.hid (OwnR.alloc (show OwnR wr w.heap.size 9 1 _ _ _ from HS.out) (.cells #[.string t] 9))
            have HRX1 := Lib.hid (row_new wr [.string t] 9 1 1 rfl (by unfold maxLen; omega))
            have HX := Lib.hid (show stepQ s (O, false) t = (O ++ [t], false) by unfold stepQ; rw [hb, he]; rfl)
            go_wp2_with (at_builtin; refine wpList_app_keep rfl _ _ 34 rfl w.heap.size 9 _ 1 16 Try.underlying34 info_string rfl (by decide) _ _ _ rfl HS1.out _ 1 1 [.string t] rfl HRX1.out (fun u hu => by simp at hu; subst hu; rfl) ?c1 ?c2 ?c3 ?_)
            case c1 => simp only [maxLen]; omega
            case c2 => omega
            case c3 => have h2 := hbel.size; simp; omega
            intro v1 w2 ho' _ hb' _ _
            have HO1 := Lib.hid (own_text ho')
            replace hbel := (belAlloc hbel (.cells #[.string t] 9)).trans hb'
            clear ho' hb'
            go_wp2
            go_roundw
            case rel => exact ⟨k + 1, _, _, by omega, by push_cast; rfl, rfl, Lib.hid (by rw [HNX.out, HX.out]), by simp only [List.length_append, List.length_cons, List.length_nil]; omega, HO1.out, hbel⟩
            case measure => simp [intOf] <;> omega
          | false =>
            have HS1 := Lib.hid (OwnR.alloc (show OwnR wr w.heap.size 9 1 _ _ _ from HS.out) (.cells #[.string s] 9))
            have HRX1 := Lib.hid (row_new wr [.string s] 9 1 1 rfl (by unfold maxLen; omega))
            have HX := Lib.hid (show stepQ s (O, false) t = (O ++ [s] ++ [t], true) by unfold stepQ; rw [hb, he]; rfl)
            go_upto_region 9 with (at_builtin; refine wpList_app_keep rfl _ _ 34 rfl w.heap.size 9 _ 1 16 Try.underlying34 info_string rfl (by decide) _ _ _ rfl HS1.out _ 1 1 [.string s] rfl HRX1.out (fun u hu => by simp at hu; subst hu; rfl) ?c1 ?c2 ?c3 ?_)
            case c1 => simp only [maxLen]; omega
            case c2 => omega
            case c3 => have h2 := hbel.size; simp; omega
            intro v1 w2 ho' _ hb' _ _
            have HO1 := Lib.hid (own_text ho')
            replace hbel := (belAlloc hbel (.cells #[.string s] 9)).trans hb'
            clear ho' hb'
            have hol2 : (O ++ [s]).length ≤ 2 * k + 1 := by simp only [List.length_append, List.length_cons, List.length_nil]; omega
            clear HS1 HRX1
            go_upto_region 9 with fail
            have HS2 := Lib.hid (OwnR.alloc (show OwnR w2 w.heap.size 9 1 _ _ _ from HO1.out) (.cells #[.string t] 9))
            have HRX2 := Lib.hid (row_new w2 [.string t] 9 1 1 rfl (by unfold maxLen; omega))
            go_wp2_with (at_builtin; refine wpList_app_keep rfl _ _ 34 rfl w.heap.size 9 _ 1 16 Try.underlying34 info_string rfl (by decide) _ _ _ rfl HS2.out _ 1 1 [.string t] rfl HRX2.out (fun u hu => by simp at hu; subst hu; rfl) ?c1 ?c2 ?c3 ?_)
            case c1 => simp only [maxLen]; omega
            case c2 => omega
            case c3 => have h2 := hbel.size; simp; omega
            intro v2 w3 ho' _ hb' _ _
            have HO2 := Lib.hid (own_text2 ho')
            replace hbel := (belAlloc hbel (.cells #[.string t] 9)).trans hb'
            clear ho' hb'
            go_wp2
            go_roundw
            case rel => exact ⟨k + 1, _, _, by omega, by push_cast; rfl, rfl, Lib.hid (by rw [HNX.out, HX.out]), by simp only [List.length_append, List.length_cons, List.length_nil]; omega, HO2.out, hbel⟩
            case measure => simp [intOf] <;> omega
    · obtain rfl : k = G.length := by omega
      have hd : decide ((G.length : Int) < (G.length : Int)) = false := decide_eq_false (by omega)
      rw [List.take_length] at HE
      cases D with
      | true =>
        have HP := Lib.hid (show putF G s = O by unfold putF; rw [HE.out]; rfl)
        go_wp2
        go_ret
        exact ⟨_, rfl, by rw [HP.out]; exact HS.out, hbel⟩
      | false =>
        have HP := Lib.hid (show putF G s = O ++ [s] by unfold putF; rw [HE.out]; rfl)
        have HS1 := Lib.hid (OwnR.alloc (show OwnR wr w.heap.size 9 1 _ _ _ from HS.out) (.cells #[.string s] 9))
        have HRX1 := Lib.hid (row_new wr [.string s] 9 1 1 rfl (by unfold maxLen; omega))
        go_wp2_with (at_builtin; refine wpList_app_keep rfl _ _ 34 rfl w.heap.size 9 _ 1 16 Try.underlying34 info_string rfl (by decide) _ _ _ rfl HS1.out _ 1 1 [.string s] rfl HRX1.out (fun u hu => by simp at hu; subst hu; rfl) ?c1 ?c2 ?c3 ?_)
        case c1 => simp only [maxLen]; omega
        case c2 => omega
        case c3 => have h2 := hbel.size; simp; omega
        intro v1 w2 ho' _ hb' _ _
        have HO1 := Lib.hid (own_text ho')
        replace hbel := (belAlloc hbel (.cells #[.string s] 9)).trans hb'
        clear ho' hb'
        go_wp2
        go_ret
        exact ⟨_, rfl, by rw [HP.out]; exact HO1.out, hbel⟩
end Go.Proofs.Ytafojeeehehplaa
