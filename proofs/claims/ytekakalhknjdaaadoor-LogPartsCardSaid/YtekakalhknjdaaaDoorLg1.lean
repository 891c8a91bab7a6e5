
/- Stage 27: words, kinds, a line that is written: the first contracts. -/
import Derived.Test.YtekakalhknjdaaaDoorLgS
import Derived.Test.YtekakalhknjdaaaDoorLgRd
import Derived.Test.YtekakalhknjdaaaDoorQuantB
import Derived.Test.YtekakalhknjdaaaDoorThrTextMath
import Derived.Test.YtekakalhknjdaaaDoorInsK
import Derived.Test.YtekakalhknjdaaaDoorGwM
namespace Go.Proofs.YtekakalhknjdaaaDoor
open Go.RowKit
set_option linter.unusedVariables false
set_option linter.unusedSimpArgs false
theorem word_bad {s : ByteArray} {k : Nat} (h : k < s.size) (hb : ¬ (33 ≤ s[k].toNat ∧ s[k].toNat ≤ 126)) : wordB s.data.toList = false := by
  have hm : s[k] ∈ s.data.toList := by
    have e : s[k] = s.data.toList[k]'(by simpa using h) := by simp; rfl
    rw [e]; exact List.getElem_mem _
  unfold wordB
  rw [List.all_eq_false.2 ⟨_, hm, by simpa using hb⟩, Bool.false_and]
theorem word_end {s : ByteArray} (h : ∀ j (hj : j < s.size), 33 ≤ s[j].toNat ∧ s[j].toNat ≤ 126) : wordB s.data.toList = (decide (1 ≤ s.size) && (decide (s.size ≤ 60) && !(s.data.toList.head? == some 35))) := by
  unfold wordB
  rw [List.all_eq_true.2 (fun x hx => by
    obtain ⟨j, hj, rfl⟩ := List.getElem_of_mem hx
    have hj2 : j < s.size := by simpa using hj
    have e : s.data.toList[j] = s[j] := by simp; rfl
    rw [e]
    simpa using h j hj2), Bool.true_and]
  simp
theorem head_at {s : ByteArray} (h : 0 < s.size) : s.data.toList.head? = some s[0] := by
  have e : s.data.toList[0]'(by simpa using h) = s[0] := by simp; rfl
  cases hl : s.data.toList with
  | nil =>
    have h3 : s.data.toList.length = 0 := by rw [hl]; rfl
    rw [Array.length_toList] at h3
    have h2 : s.size = s.data.size := rfl
    omega
  | cons a r => simp only [hl, List.getElem_cons_zero] at e; rw [e]; rfl
theorem u8_neL {a c : UInt8} (h : a ≠ c) : (a.toNat : Int) ≠ (c.toNat : Int) := fun e => h (UInt8.toNat_inj.1 (by omega))
/-- A writer in memory. -/
def WrAt (u : World) (B base : Nat) (s : WrV) : Prop := ∃ (a : Option Addr) (c : Nat), Blk u B [.slice a s.F.length c, .int .i64 s.e.kind, .string s.e.id, .int .i64 s.e.sig, .int .i64 s.e.n, .bool s.bad] 71 ∧ OwnR u base 9 1 (.slice a s.F.length c) s.F.length (s.F.map Value.string)
theorem WrAt.later {u v : World} {B base : Nat} {s : WrV} (h : WrAt u B base s) (hb : Below u.heap.size u v) : WrAt v B base s := by
  obtain ⟨a, c, h1, h2⟩ := h
  exact ⟨a, c, h1.later hb, h2.later hb⟩
theorem own_blkW {u : World} {base k n M : Nat} {E T : TypeId} {v : Value} {cs C : List Value} (h : OwnR u base E k v n cs) (hb : Blk u M C T) (hne : E ≠ T) (i : Nat) (x : Value) : OwnR (u.setCell ⟨M, i, none⟩ x) base E k v n cs := by
  obtain ⟨h1, h2⟩ := h
  refine ⟨h1, h2.imp id ?_⟩
  rintro ⟨g, cap, cur, e1, e2, e3, e4⟩
  refine ⟨g, cap, cur, e1, e2, ?_, e4⟩
  have hg : M ≠ g := by
    intro e
    unfold Blk at hb
    rw [e, e3] at hb
    simp at hb
    exact hne hb.2
  rw [Below.heap_setCell _ _ _ _ (show g ≠ (⟨M, i, none⟩ : Addr).block from fun e => hg e.symm)]; exact e3
theorem own_neW {u : World} {base k n M : Nat} {E T : TypeId} {v : Value} {cs C : List Value} (h : OwnR u base E k v n cs) (hb : Blk u M C T) (hne : E ≠ T) : v.ownBlock ≠ some M := by
  intro e
  obtain ⟨h1, h2⟩ := h
  rcases h2 with ⟨rfl, _⟩ | ⟨g, cap, cur, rfl, e2, e3, e4⟩
  · cases e
  · cases e
    unfold Blk at hb
    rw [e3] at hb
    simp at hb
    exact hne hb.2
theorem Blk.grownL {w w' : World} {M : Nat} {C : List Value} {T : TypeId} {v : Value} (h : Blk w M C T) (hg : w.grownBy w' v.ownBlock) (hn : v.ownBlock ≠ some M) : Blk w' M C T := by
  have hl : M < w.heap.size := (Array.getElem?_eq_some_iff.1 h).1
  exact (hg.block M hl (fun e => hn e.symm)).trans h
theorem info_strL : (Tryd.prog.info? 9).map (fun i => (i.zero, i.size, i.bytes)) = some (some (.string ⟨#[]⟩), 1, 16) := by kernel_rfl
theorem str_oneW (s : ByteArray) : ∀ u ∈ [Value.string s], u.oneCell' = true := by intro u hu; simp at hu; subst hu; rfl
theorem belLow {base : Nat} {w u : World} (h : Below base w u) (a : Addr) (x : Value) (ha : base ≤ a.block) : Below base w (u.setCell a x) := h.setCell ha x
set_option maxRecDepth 100000 in
set_option maxHeartbeats 16000000 in
theorem lg_Word (s : ByteArray) (w : World) (hs : s.size ≤ maxLen) :
    Calls Tryd.prog 61 #[.string s] w fun e w' => e = .returned (.bool (wordB s.data.toList)) ∧ w = w' := by
  have hs2 : (s.size : Int) ≤ 9223372036854775807 := by unfold maxLen at hs; omega
  clear hs
  go_enter Tryd.func61, Tryd.ntmps61
  go_wp2
  go_loopw [6] (fun iv wr => ∃ k : Nat, k ≤ s.size ∧ iv = .int .i64 k ∧ Hid (∀ j (hj : j < s.size), j < k → 33 ≤ s[j].toNat ∧ s[j].toNat ≤ 126) ∧ wr = w) (fun iv _ => s.size - (intOf iv).toNat)
  case atStart => exact ⟨0, Nat.zero_le _, rfl, Lib.hid (fun j hj h => absurd h (by omega)), rfl⟩
  case round =>
    obtain ⟨k, hk, rfl, HA, rfl⟩ := hrel
    by_cases hlt : k < s.size
    · have hd : decide ((k : Int) < (s.size : Int)) = true := decide_eq_true (by omega)
      have hki : (k : Int) < (s.size : Int) := by omega
      have hk0 : (0 : Int) ≤ (k : Int) := by omega
      have hc8 := s[k].toNat_lt
      by_cases h1 : s[k].toNat < 33
      · have HF := Lib.hid (word_bad hlt (by omega))
        have t1 : decide ((s[k].toNat : Int) < 33) = true := decide_eq_true (by omega)
        have t1i : (s[k].toNat : Int) < 33 := by omega
        go_wp2
        go_ret
        exact ⟨by rw [HF.out] <;> rfl, by first | rfl | trivial⟩
      · have t1 : decide ((s[k].toNat : Int) < 33) = false := decide_eq_false (by omega)
        have t1i : ¬ (s[k].toNat : Int) < 33 := by omega
        by_cases h2 : 126 < s[k].toNat
        · have HF := Lib.hid (word_bad hlt (by omega))
          have t2 : decide ((126 : Int) < (s[k].toNat : Int)) = true := decide_eq_true (by omega)
          have t2i : (126 : Int) < (s[k].toNat : Int) := by omega
          go_wp2
          go_ret
          exact ⟨by rw [HF.out] <;> rfl, by first | rfl | trivial⟩
        · have t2 : decide ((126 : Int) < (s[k].toNat : Int)) = false := decide_eq_false (by omega)
          have t2i : ¬ (126 : Int) < (s[k].toNat : Int) := by omega
          have HN := Lib.hid (show ∀ j (hj : j < s.size), j < k + 1 → 33 ≤ s[j].toNat ∧ s[j].toNat ≤ 126 from fun j hj h => (Nat.lt_or_ge j k).elim (HA.out j hj) (fun h9 => by have e9 : j = k := (by omega); subst e9; omega))
          go_wp2
          go_roundw
          case rel => exact ⟨k + 1, by omega, by push_cast; rfl, HN, by first | rfl | trivial⟩
          case measure => simp [intOf] <;> omega
    · obtain rfl : k = s.size := by omega
      have HE := Lib.hid (word_end (fun j hj => HA.out j hj hj))
      have hd : decide ((s.size : Int) < (s.size : Int)) = false := decide_eq_false (by omega)
      by_cases h0 : s.size = 0
      · have t1 : decide ((1 : Int) ≤ (s.size : Int)) = false := decide_eq_false (by omega)
        have t1i : ¬ (1 : Int) ≤ (s.size : Int) := by omega
        have HR := Lib.hid (show wordB s.data.toList = false from by rw [HE.out, decide_eq_false (show ¬ 1 ≤ s.size by omega)]; rfl)
        clear h0
        go_wp2
        go_ret
        exact ⟨by rw [HR.out] <;> rfl, by first | rfl | trivial⟩
      · have t1 : decide ((1 : Int) ≤ (s.size : Int)) = true := decide_eq_true (by omega)
        have t1i : (1 : Int) ≤ (s.size : Int) := by omega
        have h0l : 0 < s.size := by omega
        have h0i : (0 : Int) < (s.size : Int) := by omega
        clear h0
        by_cases h6 : s.size ≤ 60
        · have t2 : decide ((s.size : Int) ≤ 60) = true := decide_eq_true (by omega)
          have t2i : (s.size : Int) ≤ 60 := by omega
          rcases Classical.em (s[0] = 35) with q | q
          · have t3 : ((s[0].toNat : Int) == 35) = true := by rw [q]; rfl
            have t4 : ((s[0].toNat : Int) != 35) = false := by rw [q]; rfl
            have HR := Lib.hid (show wordB s.data.toList = false from by rw [HE.out, head_at h0l, q]; simp)
            clear q
            go_wp2
            go_ret
            exact ⟨by rw [HR.out] <;> rfl, by first | rfl | trivial⟩
          · have t3 : ((s[0].toNat : Int) == 35) = false := by rw [beq_eq_false_iff_ne]; exact u8_neL q
            have t4 : ((s[0].toNat : Int) != 35) = true := by rw [bne_iff_ne]; exact u8_neL q
            have HR := Lib.hid (show wordB s.data.toList = true from by rw [HE.out, head_at h0l]; simp [q]; omega)
            clear q
            go_wp2
            go_ret
            exact ⟨by rw [HR.out] <;> rfl, by first | rfl | trivial⟩
        · have t2 : decide ((s.size : Int) ≤ 60) = false := decide_eq_false (by omega)
          have t2i : ¬ (s.size : Int) ≤ 60 := by omega
          have HR := Lib.hid (show wordB s.data.toList = false from by rw [HE.out, decide_eq_false h6]; simp)
          go_wp2
          go_ret
          exact ⟨by rw [HR.out] <;> rfl, by first | rfl | trivial⟩
set_option maxRecDepth 100000 in
set_option maxHeartbeats 16000000 in
theorem lg_known (k : Int) (w : World) :
    Calls Tryd.prog 34 #[.int .i64 k] w fun e w' => e = .returned (.bool (decide (0 < k ∧ k < 17))) ∧ w = w' := by
  by_cases h1 : 0 < k
  · have t1 : decide ((0 : Int) < k) = true := decide_eq_true h1
    by_cases h2 : k < 17
    · have t2 : decide (k < (17 : Int)) = true := decide_eq_true h2
      go_enter Tryd.func34, Tryd.ntmps34
      go_wp2
      go_ret
      exact ⟨by first | rfl | (rw [decide_eq_true (show 0 < k ∧ k < 17 by omega)] <;> rfl), rfl⟩
    · have t2 : decide (k < (17 : Int)) = false := decide_eq_false h2
      go_enter Tryd.func34, Tryd.ntmps34
      go_wp2
      go_ret
      exact ⟨by first | rfl | (rw [decide_eq_false (show ¬ (0 < k ∧ k < 17) by omega)] <;> rfl), rfl⟩
  · have t1 : decide ((0 : Int) < k) = false := decide_eq_false h1
    go_enter Tryd.func34, Tryd.ntmps34
    go_wp2
    go_ret
    exact ⟨by first | rfl | (rw [decide_eq_false (show ¬ (0 < k ∧ k < 17) by omega)] <;> rfl), rfl⟩
set_option maxRecDepth 100000 in
set_option maxHeartbeats 16000000 in
theorem lg_words (w : World) :
    Calls Tryd.prog 46 #[] w fun e w' => e = .returned (.agg #[.string ⟨#[]⟩, .string ⟨#[97, 100, 109, 105, 116]⟩, .string ⟨#[112, 114, 101, 101, 109, 112, 116]⟩, .string ⟨#[114, 101, 106, 101, 99, 116]⟩, .string ⟨#[100, 101, 108, 101, 116, 101]⟩, .string ⟨#[101, 118, 105, 99, 116]⟩, .string ⟨#[111, 110]⟩, .string ⟨#[111, 102, 102]⟩, .string ⟨#[98, 101, 103, 105, 110]⟩, .string ⟨#[112, 117, 108, 108]⟩, .string ⟨#[117, 112]⟩, .string ⟨#[102, 97, 105, 108]⟩, .string ⟨#[103, 111, 110, 101]⟩, .string ⟨#[100, 101, 97, 100]⟩, .string ⟨#[105, 109, 97, 103, 101]⟩, .string ⟨#[115, 116, 111, 112]⟩, .string ⟨#[114, 101, 99, 111, 118, 101, 114]⟩]) ∧ Below w.heap.size w w' := by
  have hbel : Below w.heap.size w w := Below.refl _ _
  go_enter Tryd.func46, Tryd.ntmps46
  go_wp2
  simp [bodyPost, results, Tryd.results46, go_sem]
  exact belAlloc hbel _
set_option maxRecDepth 100000 in
set_option maxHeartbeats 16000000 in
theorem lg_signals (w : World) :
    Calls Tryd.prog 60 #[] w fun e w' => e = .returned (.agg #[.string ⟨#[109, 101, 109, 111, 114, 121]⟩, .string ⟨#[100, 105, 115, 107]⟩, .string ⟨#[112, 105, 100]⟩]) ∧ Below w.heap.size w w' := by
  have hbel : Below w.heap.size w w := Below.refl _ _
  go_enter Tryd.func60, Tryd.ntmps60
  go_wp2
  simp [bodyPost, results, Tryd.results60, go_sem]
  exact belAlloc hbel _
set_option maxRecDepth 100000 in
set_option maxHeartbeats 16000000 in
theorem lg_put (B base : Nat) (s : WrV) (f : ByteArray) (ok : Bool) (w : World) (hW : WrAt w B base s) (hb : base ≤ B) (hl : s.F.length ≤ 10) :
    Calls Tryd.prog 45 #[.pointer (some ⟨B, 0, none⟩), .string f, .bool ok] w fun e w' => e = .returned (.tuple #[]) ∧ WrAt w' B base (s.put f ok) ∧ Below base w w' := by
  obtain ⟨a, c, hB, hO⟩ := hW
  have HB := Lib.hid hB
  have HO := Lib.hid hO
  clear hB hO
  have kA := belAlloc (Below.refl w.heap.size w) (.cells #[.string f] 9)
  have HOA := Lib.hid (OwnR.later HO.out kA)
  have HBA := Lib.hid (HB.out.later kA)
  have HRA := Lib.hid (row_new w [.string f] 9 1 1 rfl (by unfold maxLen; omega))
  have HKA := Lib.hid kA
  clear kA
  have hBl := HB.out.lt
  have b0 := HB.out.cell (j := 0) rfl
  have bf := HB.out.frozen
  go_enter Tryd.func45, Tryd.ntmps45
  go_wp2_with (at_builtin; (refine wpList_app_row rfl _ _ 41 rfl base 9 _ 1 16 Tryd.underlying41 info_strL rfl (by decide) _ _ _ rfl HOA.out _ 1 1 [.string f] rfl HRA.out (str_oneW f) ?c1 ?c2 ?c3 ?_))
  case c1 => unfold maxLen; omega
  case c2 => omega
  case c3 => have := HKA.out.size; omega
  intro v9 w9 ho9 hb9 hg9
  obtain ⟨va, vc, rfl, _⟩ := rowR_of_own ho9
  have HM := Lib.hid (Blk.grownL HBA.out hg9 (own_neW HOA.out HBA.out (by decide)))
  have HO9 := Lib.hid ho9
  have HB9 := Lib.hid ((HKA.out.mono (by omega)).trans hb9)
  clear b0 bf ho9 hb9 hg9
  have b0 := HM.out.cell (j := 0) rfl
  have b5 := HM.out.cell (j := 5) rfl
  have bf := HM.out.frozen
  cases hbd : s.bad
  · rw [hbd] at b5
    cases ok
    · go_wp2
      go_end0
      refine ⟨rfl, ⟨va, vc, ?_, ?_⟩, belLow (belLow HB9.out ⟨B, 0, none⟩ (.slice va (s.F.length + 1) vc) hb) ⟨B, 5, none⟩ (.bool true) hb⟩
      · have h := (HM.out.set 0 (.slice va (s.F.length + 1) vc)).set 5 (.bool true)
        unfold WrV.put
        simp only [hbd, List.length_append, List.length_cons, List.length_nil]
        exact h
      · have h := own_blkW (own_blkW HO9.out HM.out (by decide) 0 (.slice va (s.F.length + 1) vc)) (HM.out.set 0 (.slice va (s.F.length + 1) vc)) (by decide) 5 (.bool true)
        unfold WrV.put
        simp only [List.length_append, List.length_cons, List.length_nil, List.map_append, List.map_cons, List.map_nil]
        exact h
    · go_wp2
      go_end0
      refine ⟨rfl, ⟨va, vc, ?_, ?_⟩, belLow (belLow HB9.out ⟨B, 0, none⟩ (.slice va (s.F.length + 1) vc) hb) ⟨B, 5, none⟩ (.bool false) hb⟩
      · have h := (HM.out.set 0 (.slice va (s.F.length + 1) vc)).set 5 (.bool false)
        unfold WrV.put
        simp only [hbd, List.length_append, List.length_cons, List.length_nil]
        exact h
      · have h := own_blkW (own_blkW HO9.out HM.out (by decide) 0 (.slice va (s.F.length + 1) vc)) (HM.out.set 0 (.slice va (s.F.length + 1) vc)) (by decide) 5 (.bool false)
        unfold WrV.put
        simp only [List.length_append, List.length_cons, List.length_nil, List.map_append, List.map_cons, List.map_nil]
        exact h
  · rw [hbd] at b5
    go_wp2
    go_end0
    refine ⟨rfl, ⟨va, vc, ?_, ?_⟩, belLow (belLow HB9.out ⟨B, 0, none⟩ (.slice va (s.F.length + 1) vc) hb) ⟨B, 5, none⟩ (.bool true) hb⟩
    · have h := (HM.out.set 0 (.slice va (s.F.length + 1) vc)).set 5 (.bool true)
      unfold WrV.put
      simp only [hbd, List.length_append, List.length_cons, List.length_nil]
      exact h
    · have h := own_blkW (own_blkW HO9.out HM.out (by decide) 0 (.slice va (s.F.length + 1) vc)) (HM.out.set 0 (.slice va (s.F.length + 1) vc)) (by decide) 5 (.bool true)
      unfold WrV.put
      simp only [List.length_append, List.length_cons, List.length_nil, List.map_append, List.map_cons, List.map_nil]
      exact h
end Go.Proofs.YtekakalhknjdaaaDoor
