
/- ConfLines holds for all its arguments. No conditions but that the library's variables lie as its own text lays them. -/
import Derived.Test.YtcaenbobfneejaaDoorCfLine
import Derived.Test.YtcaenbobfneejaaDoorThrCards
namespace Go.Proofs.YtcaenbobfneejaaDoor.confLines
open Go.ChangeShapes Go.WideShapes Go.ChangeAt Go.RowKit
open Go.ChangeMaps (open_string shut_string)
set_option linter.unusedVariables false
set_option linter.unusedSimpArgs false
theorem cfa_own {c : CfM} (hok : c.ok) {tn : Nat} (hT : c.T.length = tn) {w : World} {B : Nat} {dt : Option Addr} {dc : Nat} (h : OwnR w B 39 5 (.slice dt tn dc) tn (c.T.flatMap ThrV.cells)) : CfA c dt dc w := by
  subst hT
  obtain ⟨a, cap, e, hr⟩ := rowR_of_own h
  simp only [Value.slice.injEq, true_and] at e
  obtain ⟨rfl, rfl⟩ := e
  exact ⟨hok, hr⟩
def lineS (F : List FldV) : ByteArray := bA (lineB F)
theorem info_strI : (Tryd.prog.info? 9).map (fun i => (i.zero, i.size, i.bytes)) = some (some (.string ⟨#[]⟩), 1, 16) := by kernel_rfl
theorem str_oneL (s : ByteArray) : ∀ u ∈ [Value.string s], u.oneCell' = true := by intro u hu; simp at hu; subst hu; rfl
theorem s_at {LL : List (List FldV)} {S : ByteArray} (h : bA (joinF LL) = S) {i : Nat} (hi : i < S.size) : S[i] = (joinF LL)[i]'(by subst h; rw [bA_size] at hi; exact hi) := by
  subst h
  exact bA_at _ hi
/-- The lines up to j, without line k. -/
def lessS (LL : List (List FldV)) (k j : Nat) : ByteArray := bA (joinF ((LL.take j).eraseIdx k))
theorem lessS_zero (LL : List (List FldV)) (k : Nat) : lessS LL k 0 = ⟨#[]⟩ := by unfold lessS; simp [joinF, bA]
theorem lessS_all (LL : List (List FldV)) (k : Nat) {n : Nat} (h : LL.length = n) : lessS LL k n = bA (joinF (LL.eraseIdx k)) := by unfold lessS; rw [List.take_of_length_le (by omega)]
theorem lessS_skip (LL : List (List FldV)) (k : Nat) : lessS LL k (k + 1) = lessS LL k k := by
  unfold lessS
  congr 2
  have h0 : (LL.take k).eraseIdx k = LL.take k := List.eraseIdx_of_length_le (by rw [List.length_take]; omega)
  rw [h0]
  rcases Nat.lt_or_ge k LL.length with h | h
  · rw [List.take_add_one, List.getElem?_eq_getElem h, List.eraseIdx_append_of_length_le (by rw [List.length_take]; omega)]
    rw [show k - (LL.take k).length = 0 by rw [List.length_take]; omega]
    simp
  · rw [List.take_of_length_le (by omega), List.take_of_length_le h, List.eraseIdx_of_length_le h]
theorem lessS_next (LL : List (List FldV)) (k : Nat) {j : Nat} {F : List FldV} (h : LL[j]? = some F) (hj : j ≠ k) : lessS LL k (j + 1) = lessS LL k j ++ lineS F := by
  have hl := (List.getElem?_eq_some_iff.1 h).1
  unfold lessS lineS
  rw [bA_appL, show joinF ((LL.take j).eraseIdx k) ++ lineB F = joinF ((LL.take j).eraseIdx k ++ [F]) by rw [joinF_appC]; simp [joinF, lineB]]
  congr 2
  rw [List.take_add_one, h]
  rcases Nat.lt_or_ge k j with q | q
  · rw [List.eraseIdx_append_of_lt_length (by rw [List.length_take]; omega)]; rfl
  · rw [List.eraseIdx_of_length_le (by simp; omega), List.eraseIdx_of_length_le (by simp; omega)]; rfl
theorem lessS_size (LL : List (List FldV)) (k j : Nat) : (lessS LL k j).size ≤ (joinF LL).length := by
  unfold lessS
  rw [bA_size]
  exact Nat.le_trans (join_erase _ _) (posL_le LL j)
theorem lineS_size {LL : List (List FldV)} {j : Nat} {F : List FldV} (h : LL[j]? = some F) : (lineS F).size ≤ (joinF LL).length := by
  have h1 := posL_succ LL h
  have h2 := posL_le LL (j + 1)
  unfold lineS lineB
  rw [bA_size, List.length_append]
  simp
  omega
theorem head_row (j : Nat) (ns : List Int) : (((lineS (rowL j ns)).extract 0 1).toList == [116]) = false := by
  have e : ∃ x r, kwL j = x :: r ∧ x ≠ 116 := by unfold kwL; split <;> exact ⟨_, _, rfl, by decide⟩
  obtain ⟨x, r, e1, e2⟩ := e
  have h : ((lineS (rowL j ns)).extract 0 1).toList = [x] := by
    rw [ByteArray.toList_eq]
    unfold lineS lineB
    rw [Lib.extract_data, bA_data, words_row]
    unfold rowB
    rw [e1]
    simp
  rw [h]
  simpa using e2
theorem head_thrL (t : ThrV) : (((lineS (thrL t)).extract 0 1).toList == [116]) = true := by
  have h : ((lineS (thrL t)).extract 0 1).toList = [116] := by
    rw [ByteArray.toList_eq]
    unfold lineS lineB
    rw [Lib.extract_data, bA_data, words_thr]
    unfold tkw
    simp
  rw [h]
  decide
theorem head_thr (c : CfM) (k : Nat) {F : List FldV} (hF : (printC c)[k]? = some F) : (((lineS F).extract 0 1).toList == [116]) = isThr c k := by
  have hjl : k < (printC c).length := (List.getElem?_eq_some_iff.1 hF).1
  rw [print_len] at hjl
  unfold isThr
  rw [printC_rows, List.append_assoc] at hF
  rcases (show k = 0 ∨ k = 1 ∨ (2 ≤ k ∧ k < 2 + c.T.length) ∨ 2 + c.T.length ≤ k by omega) with rfl | rfl | ⟨q1, q2⟩ | q
  · simp only [List.map_cons, List.cons_append, List.getElem?_cons_zero, Option.some.injEq] at hF
    subst hF
    rw [show rowC c 0 = rowL 0 (nsC c 0) from rfl, head_row]; simp
  · simp only [List.map_cons, List.cons_append, List.getElem?_cons_succ, List.getElem?_cons_zero, Option.some.injEq] at hF
    subst hF
    rw [show rowC c 1 = rowL 1 (nsC c 1) from rfl, head_row]; simp
  · obtain ⟨i, rfl⟩ : ∃ i, k = i + 2 := ⟨k - 2, by omega⟩
    have hi : i < c.T.length := by omega
    simp only [List.map_cons, List.map_nil, List.cons_append, List.nil_append, List.getElem?_cons_succ] at hF
    rw [List.getElem?_append_left (by rw [List.length_map]; exact hi), List.getElem?_map, List.getElem?_eq_getElem hi] at hF
    simp only [Option.map_some, Option.some.injEq] at hF
    subst hF
    rw [head_thrL]
    simp
    omega
  · obtain ⟨i, rfl⟩ : ∃ i, k = 2 + (c.T.length + i) := ⟨k - 2 - c.T.length, by omega⟩
    have hi : i < 4 := by omega
    rw [List.getElem?_append_right (by simp), show 2 + (c.T.length + i) - ([0, 1].map (rowC c)).length = c.T.length + i by simp, List.getElem?_append_right (by simp), show c.T.length + i - (c.T.map thrL).length = i by simp] at hF
    rcases (show i = 0 ∨ i = 1 ∨ i = 2 ∨ i = 3 by omega) with rfl | rfl | rfl | rfl <;> simp at hF <;> subst hF <;> unfold rowC <;> rw [head_row] <;> simp
/-- Line k is one of a threshold, or it isn't; what is read without it, and with it twice. -/
theorem line_facts (c : CfM) (h : c.ok) (hr : rightM c = true) (hT : ¬ c.T.length = 12) (k : Nat) (hk : k < (printC c).length) : ∃ F, (printC c)[k]? = some F ∧
    ((((1 ≤ (lineS F).size) ∧ (((lineS F).extract 0 1).toList == [116]) = true) ∧ ∃ C1 C2, confF (joinF ((printC c).eraseIdx k)) = .ok C1 ∧ confF (joinF (printC c ++ [F])) = .ok C2) ∨ (((1 ≤ (lineS F).size) ∧ (((lineS F).extract 0 1).toList == [116]) = false) ∧ confF (joinF ((printC c).eraseIdx k)) = .error (0, 4) ∧ confF (joinF (printC c ++ [F])) = .error (((printC c).length : Int) + 1, 5))) := by
  have hF := List.getElem?_eq_getElem hk
  refine ⟨(printC c)[k], hF, ?_⟩
  have h1 := less_read c h hr k hk
  have h2 := twice_read c h hr hT k hF
  have h3 := head_thr c k hF
  have h4 : 1 ≤ (lineS (printC c)[k]).size := by unfold lineS lineB; rw [bA_size, List.length_append]; simp
  rw [h1, h2, h3]
  cases isThr c k with
  | true => exact .inl ⟨⟨h4, rfl⟩, _, _, rfl, rfl⟩
  | false => exact .inr ⟨⟨h4, rfl⟩, rfl, rfl⟩
set_option maxRecDepth 100000 in
set_option maxHeartbeats 16000000 in
theorem walk (c : CfM) (ta : Option Addr) (tc : Nat) (wh : Int) (W : World) (ht : Env W) (hc : CfA c ta tc W) (hwh : 0 ≤ wh ∧ wh ≤ 255) : Calls Tryd.prog 5 #[c.v (.slice ta c.T.length tc), .int .u8 wh] W fun e w' => e = .returned (.bool true) ∧ Below W.heap.size W w' := by
  have hw : Below W.heap.size W W := Below.refl _ _
  have hbel := hw
  have HE := Lib.hid ht
  have HC := Lib.hid hc
  clear ht hc
  unfold CfM.v
  go_enter Tryd.func5, Tryd.ntmps5
  go_upto_region 1 with fail
  have cc0 : (W.alloc (.cells #[.int .i64 c.k0, .int .i64 c.k1, .int .i64 c.k2, .int .i64 c.a0, .int .i64 c.a1, .int .i64 c.a2, .slice ta c.T.length tc, .int .i64 c.per, .int .i64 c.ret, .int .i64 c.age, .int .i64 c.dead] 25)).cell? ⟨W.heap.size, 0, none⟩ = some (.int .i64 c.k0) := by first | (simp; done) | (rw [World.cell?_alloc_at _ _ _ _ (by simp)]; rfl) | (rw [World.cell?_alloc_past _ _ _ (by simp <;> omega), World.cell?_alloc_at _ _ _ _ (by simp)]; rfl) | (rw [World.cell?_alloc_past _ _ _ (by simp <;> omega), World.cell?_alloc_past _ _ _ (by simp <;> omega), World.cell?_alloc_at _ _ _ _ (by simp)]; rfl)
  have cc1 : (W.alloc (.cells #[.int .i64 c.k0, .int .i64 c.k1, .int .i64 c.k2, .int .i64 c.a0, .int .i64 c.a1, .int .i64 c.a2, .slice ta c.T.length tc, .int .i64 c.per, .int .i64 c.ret, .int .i64 c.age, .int .i64 c.dead] 25)).cell? ⟨W.heap.size, 1, none⟩ = some (.int .i64 c.k1) := by first | (simp; done) | (rw [World.cell?_alloc_at _ _ _ _ (by simp)]; rfl) | (rw [World.cell?_alloc_past _ _ _ (by simp <;> omega), World.cell?_alloc_at _ _ _ _ (by simp)]; rfl) | (rw [World.cell?_alloc_past _ _ _ (by simp <;> omega), World.cell?_alloc_past _ _ _ (by simp <;> omega), World.cell?_alloc_at _ _ _ _ (by simp)]; rfl)
  have cc2 : (W.alloc (.cells #[.int .i64 c.k0, .int .i64 c.k1, .int .i64 c.k2, .int .i64 c.a0, .int .i64 c.a1, .int .i64 c.a2, .slice ta c.T.length tc, .int .i64 c.per, .int .i64 c.ret, .int .i64 c.age, .int .i64 c.dead] 25)).cell? ⟨W.heap.size, 2, none⟩ = some (.int .i64 c.k2) := by first | (simp; done) | (rw [World.cell?_alloc_at _ _ _ _ (by simp)]; rfl) | (rw [World.cell?_alloc_past _ _ _ (by simp <;> omega), World.cell?_alloc_at _ _ _ _ (by simp)]; rfl) | (rw [World.cell?_alloc_past _ _ _ (by simp <;> omega), World.cell?_alloc_past _ _ _ (by simp <;> omega), World.cell?_alloc_at _ _ _ _ (by simp)]; rfl)
  have cc3 : (W.alloc (.cells #[.int .i64 c.k0, .int .i64 c.k1, .int .i64 c.k2, .int .i64 c.a0, .int .i64 c.a1, .int .i64 c.a2, .slice ta c.T.length tc, .int .i64 c.per, .int .i64 c.ret, .int .i64 c.age, .int .i64 c.dead] 25)).cell? ⟨W.heap.size, 3, none⟩ = some (.int .i64 c.a0) := by first | (simp; done) | (rw [World.cell?_alloc_at _ _ _ _ (by simp)]; rfl) | (rw [World.cell?_alloc_past _ _ _ (by simp <;> omega), World.cell?_alloc_at _ _ _ _ (by simp)]; rfl) | (rw [World.cell?_alloc_past _ _ _ (by simp <;> omega), World.cell?_alloc_past _ _ _ (by simp <;> omega), World.cell?_alloc_at _ _ _ _ (by simp)]; rfl)
  have cc4 : (W.alloc (.cells #[.int .i64 c.k0, .int .i64 c.k1, .int .i64 c.k2, .int .i64 c.a0, .int .i64 c.a1, .int .i64 c.a2, .slice ta c.T.length tc, .int .i64 c.per, .int .i64 c.ret, .int .i64 c.age, .int .i64 c.dead] 25)).cell? ⟨W.heap.size, 4, none⟩ = some (.int .i64 c.a1) := by first | (simp; done) | (rw [World.cell?_alloc_at _ _ _ _ (by simp)]; rfl) | (rw [World.cell?_alloc_past _ _ _ (by simp <;> omega), World.cell?_alloc_at _ _ _ _ (by simp)]; rfl) | (rw [World.cell?_alloc_past _ _ _ (by simp <;> omega), World.cell?_alloc_past _ _ _ (by simp <;> omega), World.cell?_alloc_at _ _ _ _ (by simp)]; rfl)
  have cc5 : (W.alloc (.cells #[.int .i64 c.k0, .int .i64 c.k1, .int .i64 c.k2, .int .i64 c.a0, .int .i64 c.a1, .int .i64 c.a2, .slice ta c.T.length tc, .int .i64 c.per, .int .i64 c.ret, .int .i64 c.age, .int .i64 c.dead] 25)).cell? ⟨W.heap.size, 5, none⟩ = some (.int .i64 c.a2) := by first | (simp; done) | (rw [World.cell?_alloc_at _ _ _ _ (by simp)]; rfl) | (rw [World.cell?_alloc_past _ _ _ (by simp <;> omega), World.cell?_alloc_at _ _ _ _ (by simp)]; rfl) | (rw [World.cell?_alloc_past _ _ _ (by simp <;> omega), World.cell?_alloc_past _ _ _ (by simp <;> omega), World.cell?_alloc_at _ _ _ _ (by simp)]; rfl)
  have cc6 : (W.alloc (.cells #[.int .i64 c.k0, .int .i64 c.k1, .int .i64 c.k2, .int .i64 c.a0, .int .i64 c.a1, .int .i64 c.a2, .slice ta c.T.length tc, .int .i64 c.per, .int .i64 c.ret, .int .i64 c.age, .int .i64 c.dead] 25)).cell? ⟨W.heap.size, 6, none⟩ = some (.slice ta c.T.length tc) := by first | (simp; done) | (rw [World.cell?_alloc_at _ _ _ _ (by simp)]; rfl) | (rw [World.cell?_alloc_past _ _ _ (by simp <;> omega), World.cell?_alloc_at _ _ _ _ (by simp)]; rfl) | (rw [World.cell?_alloc_past _ _ _ (by simp <;> omega), World.cell?_alloc_past _ _ _ (by simp <;> omega), World.cell?_alloc_at _ _ _ _ (by simp)]; rfl)
  have cc7 : (W.alloc (.cells #[.int .i64 c.k0, .int .i64 c.k1, .int .i64 c.k2, .int .i64 c.a0, .int .i64 c.a1, .int .i64 c.a2, .slice ta c.T.length tc, .int .i64 c.per, .int .i64 c.ret, .int .i64 c.age, .int .i64 c.dead] 25)).cell? ⟨W.heap.size, 7, none⟩ = some (.int .i64 c.per) := by first | (simp; done) | (rw [World.cell?_alloc_at _ _ _ _ (by simp)]; rfl) | (rw [World.cell?_alloc_past _ _ _ (by simp <;> omega), World.cell?_alloc_at _ _ _ _ (by simp)]; rfl) | (rw [World.cell?_alloc_past _ _ _ (by simp <;> omega), World.cell?_alloc_past _ _ _ (by simp <;> omega), World.cell?_alloc_at _ _ _ _ (by simp)]; rfl)
  have cc8 : (W.alloc (.cells #[.int .i64 c.k0, .int .i64 c.k1, .int .i64 c.k2, .int .i64 c.a0, .int .i64 c.a1, .int .i64 c.a2, .slice ta c.T.length tc, .int .i64 c.per, .int .i64 c.ret, .int .i64 c.age, .int .i64 c.dead] 25)).cell? ⟨W.heap.size, 8, none⟩ = some (.int .i64 c.ret) := by first | (simp; done) | (rw [World.cell?_alloc_at _ _ _ _ (by simp)]; rfl) | (rw [World.cell?_alloc_past _ _ _ (by simp <;> omega), World.cell?_alloc_at _ _ _ _ (by simp)]; rfl) | (rw [World.cell?_alloc_past _ _ _ (by simp <;> omega), World.cell?_alloc_past _ _ _ (by simp <;> omega), World.cell?_alloc_at _ _ _ _ (by simp)]; rfl)
  have cc9 : (W.alloc (.cells #[.int .i64 c.k0, .int .i64 c.k1, .int .i64 c.k2, .int .i64 c.a0, .int .i64 c.a1, .int .i64 c.a2, .slice ta c.T.length tc, .int .i64 c.per, .int .i64 c.ret, .int .i64 c.age, .int .i64 c.dead] 25)).cell? ⟨W.heap.size, 9, none⟩ = some (.int .i64 c.age) := by first | (simp; done) | (rw [World.cell?_alloc_at _ _ _ _ (by simp)]; rfl) | (rw [World.cell?_alloc_past _ _ _ (by simp <;> omega), World.cell?_alloc_at _ _ _ _ (by simp)]; rfl) | (rw [World.cell?_alloc_past _ _ _ (by simp <;> omega), World.cell?_alloc_past _ _ _ (by simp <;> omega), World.cell?_alloc_at _ _ _ _ (by simp)]; rfl)
  have cc10 : (W.alloc (.cells #[.int .i64 c.k0, .int .i64 c.k1, .int .i64 c.k2, .int .i64 c.a0, .int .i64 c.a1, .int .i64 c.a2, .slice ta c.T.length tc, .int .i64 c.per, .int .i64 c.ret, .int .i64 c.age, .int .i64 c.dead] 25)).cell? ⟨W.heap.size, 10, none⟩ = some (.int .i64 c.dead) := by first | (simp; done) | (rw [World.cell?_alloc_at _ _ _ _ (by simp)]; rfl) | (rw [World.cell?_alloc_past _ _ _ (by simp <;> omega), World.cell?_alloc_at _ _ _ _ (by simp)]; rfl) | (rw [World.cell?_alloc_past _ _ _ (by simp <;> omega), World.cell?_alloc_past _ _ _ (by simp <;> omega), World.cell?_alloc_at _ _ _ _ (by simp)]; rfl)
  have hb2 := (by repeat (first | exact hbel | refine belAlloc ?_ _ | refine belDrew ?_ | refine belSet ?_ _ _ (by simp)) : Below W.heap.size W (W.alloc (.cells #[.int .i64 c.k0, .int .i64 c.k1, .int .i64 c.k2, .int .i64 c.a0, .int .i64 c.a1, .int .i64 c.a2, .slice ta c.T.length tc, .int .i64 c.per, .int .i64 c.ret, .int .i64 c.age, .int .i64 c.dead] 25)))
  replace hw := belStep hw hb2
  have ccB : Blk (W.alloc (.cells #[.int .i64 c.k0, .int .i64 c.k1, .int .i64 c.k2, .int .i64 c.a0, .int .i64 c.a1, .int .i64 c.a2, .slice ta c.T.length tc, .int .i64 c.per, .int .i64 c.ret, .int .i64 c.age, .int .i64 c.dead] 25)) (W.heap.size) [.int .i64 c.k0, .int .i64 c.k1, .int .i64 c.k2, .int .i64 c.a0, .int .i64 c.a1, .int .i64 c.a2, .slice ta c.T.length tc, .int .i64 c.per, .int .i64 c.ret, .int .i64 c.age, .int .i64 c.dead] 25 := (Blk.at (by simp) : Blk (W.alloc (.cells #[.int .i64 c.k0, .int .i64 c.k1, .int .i64 c.k2, .int .i64 c.a0, .int .i64 c.a1, .int .i64 c.a2, .slice ta c.T.length tc, .int .i64 c.per, .int .i64 c.ret, .int .i64 c.age, .int .i64 c.dead] 25)) (W.heap.size) [.int .i64 c.k0, .int .i64 c.k1, .int .i64 c.k2, .int .i64 c.a0, .int .i64 c.a1, .int .i64 c.a2, .slice ta c.T.length tc, .int .i64 c.per, .int .i64 c.ret, .int .i64 c.age, .int .i64 c.dead] 25).later (by repeat (first | exact Below.refl _ _ | refine belAlloc ?_ _))
  have ccF := Blk.keepF ccB
  replace ccB := Blk.keepB ccB
  clear hb2 hbel
  generalize W.alloc (.cells #[.int .i64 c.k0, .int .i64 c.k1, .int .i64 c.k2, .int .i64 c.a0, .int .i64 c.a1, .int .i64 c.a2, .slice ta c.T.length tc, .int .i64 c.per, .int .i64 c.ret, .int .i64 c.age, .int .i64 c.dead] 25) = W1 at *
  replace cc0 := keep cc0
  replace cc1 := keep cc1
  replace cc2 := keep cc2
  replace cc3 := keep cc3
  replace cc4 := keep cc4
  replace cc5 := keep cc5
  replace cc6 := keep cc6
  replace cc7 := keep cc7
  replace cc8 := keep cc8
  replace cc9 := keep cc9
  replace cc10 := keep cc10
  have hbel : Below W1.heap.size W1 W1 := Below.refl _ _
  skip
  have HW := Lib.hid hw
  clear hw
  have HC1 := Lib.hid (HC.out.later HW.out)
  have HE1 := Lib.hid (HE.out.later HW.out)
  clear HC HE
  have CA := Lib.hid (fun u (hu : Below W1.heap.size W1 u) => awake07 u (HE1.out.later hu))
  have CF := Lib.hid (fun u => few7 c ta tc u)
  obtain ⟨f1, hf1⟩ : ∃ x, decide (c.T.length ≤ 30) = x := ⟨_, rfl⟩
  rw [hf1] at CF
  clear hf1
  have CQ := Lib.hid (fun u (hu : Below W1.heap.size W1 u) => rf_Right7 c ta tc u (HC1.out.later hu))
  obtain ⟨r, hr⟩ : ∃ x, rightM c = x := ⟨_, rfl⟩
  rw [hr] at CQ
  cases f1 with
  | false =>
    go_wp2_with (first | (go_at_call 8; (with_reducible refine (CA.out _ hbel).mono ?_); rintro e w1 ⟨rfl, hb1⟩; replace hbel := belStep hbel hb1; clear hb1) | (go_at_call 9; (with_reducible refine (CF.out _).mono ?_); rintro e w1 ⟨rfl, hb1⟩; replace hbel := belStep hbel hb1; clear hb1) | (go_at_call 12; (with_reducible refine (CQ.out _ hbel).mono ?_); rintro e w1 ⟨rfl, hb1⟩; replace hbel := belStep hbel hb1; clear hb1))
    go_ret
    exact ⟨rfl, belStep HW.out hbel⟩
  | true =>
    cases r with
    | false =>
      go_wp2_with (first | (go_at_call 8; (with_reducible refine (CA.out _ hbel).mono ?_); rintro e w1 ⟨rfl, hb1⟩; replace hbel := belStep hbel hb1; clear hb1) | (go_at_call 9; (with_reducible refine (CF.out _).mono ?_); rintro e w1 ⟨rfl, hb1⟩; replace hbel := belStep hbel hb1; clear hb1) | (go_at_call 12; (with_reducible refine (CQ.out _ hbel).mono ?_); rintro e w1 ⟨rfl, hb1⟩; replace hbel := belStep hbel hb1; clear hb1))
      go_ret
      exact ⟨rfl, belStep HW.out hbel⟩
    | true =>
      have hcr := hr
      have HCR := Lib.hid hcr
      clear hr hcr
      by_cases h12 : c.T.length = 12
      · have hq : ((c.T.length : Int) == 12) = true := by rw [h12]; rfl
        have hq2 : (c.T.length : Int) = 12 := by omega
        clear h12
        go_wp2_with (first | (go_at_call 8; (with_reducible refine (CA.out _ hbel).mono ?_); rintro e w1 ⟨rfl, hb1⟩; replace hbel := belStep hbel hb1; clear hb1) | (go_at_call 9; (with_reducible refine (CF.out _).mono ?_); rintro e w1 ⟨rfl, hb1⟩; replace hbel := belStep hbel hb1; clear hb1) | (go_at_call 12; (with_reducible refine (CQ.out _ hbel).mono ?_); rintro e w1 ⟨rfl, hb1⟩; replace hbel := belStep hbel hb1; clear hb1))
        go_ret
        exact ⟨rfl, belStep HW.out hbel⟩
      · have hq : ((c.T.length : Int) == 12) = false := by rw [beq_eq_false_iff_ne]; omega
        have hq2 : ¬ (c.T.length : Int) = 12 := by omega
        have CV := Lib.hid (fun u (hu : Below W1.heap.size W1 u) => rf_Print7 c ta tc u (HC1.out.later hu) (right_of c HCR.out).2 (right_of c HCR.out).1)
        have hok := (CfP.of HC1.out.ok HCR.out).print
        have hl := fun k (hk : k < (printC c).length) => line_facts c HC1.out.ok HCR.out h12 k hk
        have hL0 := text_len c HC1.out.ok HCR.out
        have hL1 : 6 ≤ (printC c).length ∧ (printC c).length ≤ 18 := by rw [print_len]; have := (right_of c HCR.out).1; omega
        generalize printC c = LL at *
        obtain ⟨S, hS⟩ : ∃ s, bA (joinF LL) = s := ⟨_, rfl⟩
        have hsz : S.size = (joinF LL).length := by rw [← hS]; exact bA_size _
        rw [hS] at CV
        obtain ⟨hL1, hL2⟩ := hL1
        have HOK := Lib.hid hok
        have HLF := Lib.hid hl
        have HS := Lib.hid hS
        have HSZ := Lib.hid hsz
        have HLZ := Lib.hid (LineAt.zero (by omega) : LineAt LL 0 0)
        have hs2 : S.size ≤ 20000 := by omega
        clear hok hl hS hsz hL0
        obtain ⟨n, hn⟩ : ∃ n, LL.length = n := ⟨_, rfl⟩
        have HN := Lib.hid hn
        rw [hn] at hL1 hL2
        clear hn
        go_upto_region 4 with (first | (go_at_call 8; (with_reducible refine (CA.out _ hbel).mono ?_); rintro e w1 ⟨rfl, hb1⟩; replace hbel := belStep hbel hb1; clear hb1) | (go_at_call 9; (with_reducible refine (CF.out _).mono ?_); rintro e w1 ⟨rfl, hb1⟩; replace hbel := belStep hbel hb1; clear hb1) | (go_at_call 12; (with_reducible refine (CQ.out _ hbel).mono ?_); rintro e w1 ⟨rfl, hb1⟩; replace hbel := belStep hbel hb1; clear hb1) | (go_at_call 15; (with_reducible refine (CV.out _ hbel).mono ?_); rintro e w1 ⟨rfl, hb1⟩; replace hbel := belStep hbel hb1; clear hb1))
        clear CV hq hq2
        go_wp2
        go_loopg [6, 7, 8] S.size (fun gv lv fv iv wr => ∃ (i m pm : Nat), i + gv = S.size ∧ fv = .int .i64 pm ∧ iv = .int .i64 i ∧ Hid (posL LL m = pm) ∧ Hid (LineAt LL i m) ∧ Hid (OwnR wr W1.heap.size 9 1 lv ((LL.take m).map lineS).length (((LL.take m).map lineS).map Value.string)) ∧ Below W1.heap.size W1 wr)
        case atStart => exact ⟨0, 0, 0, by omega, rfl, rfl, Lib.hid (posL_zero _), HLZ, Lib.hid (OwnR.nil _ _ _ _), hbel⟩
        case round =>
          obtain ⟨i, m, pm, hig, rfl, rfl, HPM, HLA, HO, hbel⟩ := hrel
          cases gk with
          | zero =>
            obtain rfl : i = S.size := by omega
            have hd : decide ((S.size : Int) < (S.size : Int)) = false := decide_eq_false (by omega)
            have hmn : m = n := by have h := HLA.out; rw [HSZ.out] at h; rw [← HN.out]; exact h.last
            subst hmn
            rw [List.take_of_length_le (by have := HN.out; omega)] at HO
            have hlm : (LL.map lineS).length = m := by rw [List.length_map]; exact HN.out
            rw [hlm] at HO
            clear HLA HPM
            rcases own_shape HO.out with ⟨_, h0⟩ | ⟨gx, xc, rfl, hgx, _, hx1, hx2⟩
            · omega
            have hcl := Lib.hid (fun u (hu : Below wr.heap.size wr u) (j : Nat) (F : List FldV) (hF : LL[j]? = some F) => (show u.cell? ⟨gx, j, none⟩ = some (.string (lineS F)) from by have hj := (List.getElem?_eq_some_iff.1 hF).1; have := World.ownsRow.cellAt (OwnR.later HO.out hu) j (by have := HN.out; omega); rw [this, List.getElem?_map, List.getElem?_map, hF]; rfl))
            clear HO
            have HBW := Lib.hid hbel
            clear hbel
            generalize wr = wn at *
            have hbel : Below wn.heap.size wn wn := Below.refl _ _
            obtain ⟨k, hk⟩ : ∃ k : Nat, wh % (m : Int) = k := ⟨(wh % (m : Int)).toNat, by have := Int.emod_nonneg wh (show (m : Int) ≠ 0 by omega); omega⟩
            have hkm : k < m := by have := Int.emod_lt_of_pos wh (show 0 < (m : Int) by omega); omega
            have hit : wh.tmod (m : Int) = (k : Int) := by rw [Int.tmod_eq_emod_of_nonneg hwh.1]; exact hk
            have wi1 : IntKind.i64.wrap wh = wh := IntWalk.i64_in _ (by omega)
            have wi2 : IntKind.i64.wrap (k : Int) = (k : Int) := IntWalk.i64_in _ (by omega)
            have hm0 : ¬ (m : Int) = 0 := by omega
            have hm00 : ((m : Int) == 0) = false := by rw [beq_eq_false_iff_ne]; exact hm0
            clear hk hwh
            go_wp2
            clear hit wi1 wi2 hm0 hm00
            go_loopg [10, 11] m (fun gv sv iv wr => ∃ (j : Nat) (sx : ByteArray), j + gv = m ∧ sv = .string sx ∧ iv = .int .i64 j ∧ Hid (sx = lessS LL k j) ∧ Below wn.heap.size wn wr)
            case atStart => exact ⟨0, ⟨#[]⟩, by omega, rfl, rfl, Lib.hid (lessS_zero LL k).symm, hbel⟩
            case round =>
              obtain ⟨j, sx, hjg, rfl, rfl, HSX, hbel⟩ := hrel
              cases gk with
              | zero =>
                obtain rfl : j = m := by omega
                have hd3 : decide ((j : Int) < (j : Int)) = false := decide_eq_false (by omega)
                obtain ⟨F, hF⟩ : ∃ F, LL[k]? = some F := ⟨_, List.getElem?_eq_getElem (by have := HN.out; omega)⟩
                have hz := HLF.out k (by rw [HN.out]; exact hkm)
                obtain ⟨F2, hF2, hlf⟩ := hz
                have hFF : F2 = F := Option.some.inj (hF2.symm.trans hF)
                subst hFF
                clear hF2
                have hcx := hcl.out
                have hls : (lineS F2).size ≤ 20000 := Nat.le_trans (lineS_size hF) (by rw [← HSZ.out]; exact hs2)
                have hx1 := HSX.out
                rw [show lessS LL k j = bA (joinF (LL.eraseIdx k)) from lessS_all LL k HN.out] at hx1
                have hx2 : S ++ lineS F2 = bA (joinF (LL ++ [F2])) := by rw [← HS.out, joinF_appC, ← bA_appL]; unfold lineS lineB joinF; simp
                have hl1 : (joinF (LL.eraseIdx k)).length ≤ 20000 := Nat.le_trans (join_erase LL k) (by rw [← HSZ.out]; exact hs2)
                have hl2 : (joinF (LL ++ [F2])).length ≤ 40000 := by have h := congrArg ByteArray.size hx2; rw [ByteArray.size_append, bA_size] at h; omega
                have hkc := fun u hu => hcl.out u hu k F2 hF
                clear hF hcx hcl
                obtain ⟨lf, hlfe⟩ : ∃ x, lineS F2 = x := ⟨_, rfl⟩
                rw [hlfe] at hx2 hls hkc hlf
                clear hlfe
                rw [HN.out] at hlf
                generalize joinF (LL.eraseIdx k) = X1 at *
                generalize joinF (LL ++ [F2]) = X2 at *
                subst hx1
                have HX2 := Lib.hid hx2
                have HL1 := Lib.hid hl1
                have HL2 := Lib.hid hl2
                have HKC := Lib.hid hkc
                clear hx2 hl1 hl2 hkc
                have hcat : ¬ 9223372036854775807 < S.size + lf.size := by omega
                have hbw := belStep HBW.out hbel
                clear HSX
                obtain ⟨jc, W2, hrun, hji, hjb, -, -⟩ := conv_row X1 wr (by have := HL1.out; omega)
                have HB2 := Lib.hid (belStep hbel hjb)
                have HJI := Lib.hid hji
                have HEE := Lib.hid (HE1.out.later (belStep hbw hjb))
                clear hji hjb hbw
                rcases hlf with ⟨ht, C1, C2, hc1, hc2⟩ | ⟨ht, hc1, hc2⟩
                · have HC1x := Lib.hid hc1
                  have HC2x := Lib.hid hc2
                  clear hc1 hc2
                  go_upto_region 20 with (go_at_call 16; (with_reducible refine (readC_ok _ _ _ X1 C1 W2 HEE.out HJI.out HC1x.out).mono ?_); rintro e wm ⟨⟨dt, dc, rfl, _, _⟩, hbm⟩; replace hbel := belStep HB2.out hbm; clear hbm)
                  clear hrun
                  replace hbel := belAlloc hbel (.cells #[.int .i64 C1.k0, .int .i64 C1.k1, .int .i64 C1.k2, .int .i64 C1.a0, .int .i64 C1.a1, .int .i64 C1.a2, .slice dt C1.T.length dc, .int .i64 C1.per, .int .i64 C1.ret, .int .i64 C1.age, .int .i64 C1.dead] 25)
                  generalize wm.alloc (.cells #[.int .i64 C1.k0, .int .i64 C1.k1, .int .i64 C1.k2, .int .i64 C1.a0, .int .i64 C1.a1, .int .i64 C1.a2, .slice dt C1.T.length dc, .int .i64 C1.per, .int .i64 C1.ret, .int .i64 C1.age, .int .i64 C1.dead] 25) = W7 at *
                  have hkb := HKC.out _ hbel
                  obtain ⟨jc2, W8, hrun2, hji2, hjb2, -, -⟩ := HX2.out ▸ conv_row X2 W7 (by have := HL2.out; omega)
                  have HKB := Lib.hid (HKC.out _ (belStep hbel hjb2))
                  have HB8 := Lib.hid (belStep hbel hjb2)
                  have HJI2 := Lib.hid hji2
                  have HEE2 := Lib.hid (HE1.out.later (belStep HBW.out (belStep hbel hjb2)))
                  clear hji2 hjb2 hbel
                  have hk0 : (0 : Int) ≤ (k : Int) := by omega
                  have hk1 : (k : Int) < (j : Int) := by omega
                  go_upto_region 21 with (go_at_call 16; (with_reducible refine (readC_ok _ _ _ X2 C2 W8 HEE2.out HJI2.out HC2x.out).mono ?_); rintro e wm ⟨⟨dt2, dc2, rfl, _, _⟩, hbm⟩; replace hbel := belStep HB8.out hbm; clear hbm)
                  clear hrun2 hkb
                  replace hbel := belAlloc hbel (.cells #[.int .i64 C2.k0, .int .i64 C2.k1, .int .i64 C2.k2, .int .i64 C2.a0, .int .i64 C2.a1, .int .i64 C2.a2, .slice dt2 C2.T.length dc2, .int .i64 C2.per, .int .i64 C2.ret, .int .i64 C2.age, .int .i64 C2.dead] 25)
                  generalize wm.alloc (.cells #[.int .i64 C2.k0, .int .i64 C2.k1, .int .i64 C2.k2, .int .i64 C2.a0, .int .i64 C2.a1, .int .i64 C2.a2, .slice dt2 C2.T.length dc2, .int .i64 C2.per, .int .i64 C2.ret, .int .i64 C2.age, .int .i64 C2.dead] 25) = W9 at *
                  have hkb := HKC.out _ hbel
                  have hl0 : (1 : Int) ≤ (lf.size : Int) := by have := ht.1; omega
                  have ht2 := ht.2
                  have e11 : (1 : Int).toNat = 1 := rfl
                  have hwj : IntKind.i64.wrap ((j : Int) + 1) = (j : Int) + 1 := IntWalk.i64_in _ (by omega)
                  have hej : (((j : Int) + 1) == ((j : Int) + 1)) = true := by simp
                  go_wp2
                  go_ret
                  exact ⟨rfl, belStep HW.out (belStep HBW.out hbel)⟩
                · have HC1x := Lib.hid hc1
                  have HC2x := Lib.hid hc2
                  clear hc1 hc2
                  go_upto_region 20 with (go_at_call 16; (with_reducible refine (readC_no _ _ _ X1 _ _ W2 HEE.out HJI.out HC1x.out).mono ?_); rintro e wm ⟨rfl, hbm⟩; replace hbel := belStep HB2.out hbm; clear hbm)
                  clear hrun
                  replace hbel := belAlloc hbel (.cells #[.int .i64 0, .int .i64 0, .int .i64 0, .int .i64 0, .int .i64 0, .int .i64 0, .slice none 0 0, .int .i64 0, .int .i64 0, .int .i64 0, .int .i64 0] 25)
                  generalize wm.alloc (.cells #[.int .i64 0, .int .i64 0, .int .i64 0, .int .i64 0, .int .i64 0, .int .i64 0, .slice none 0 0, .int .i64 0, .int .i64 0, .int .i64 0, .int .i64 0] 25) = W7 at *
                  have hkb := HKC.out _ hbel
                  obtain ⟨jc2, W8, hrun2, hji2, hjb2, -, -⟩ := HX2.out ▸ conv_row X2 W7 (by have := HL2.out; omega)
                  have HKB := Lib.hid (HKC.out _ (belStep hbel hjb2))
                  have HB8 := Lib.hid (belStep hbel hjb2)
                  have HJI2 := Lib.hid hji2
                  have HEE2 := Lib.hid (HE1.out.later (belStep HBW.out (belStep hbel hjb2)))
                  clear hji2 hjb2 hbel
                  have hk0 : (0 : Int) ≤ (k : Int) := by omega
                  have hk1 : (k : Int) < (j : Int) := by omega
                  go_upto_region 21 with (go_at_call 16; (with_reducible refine (readC_no _ _ _ X2 _ _ W8 HEE2.out HJI2.out HC2x.out).mono ?_); rintro e wm ⟨rfl, hbm⟩; replace hbel := belStep HB8.out hbm; clear hbm)
                  clear hrun2 hkb
                  replace hbel := belAlloc hbel (.cells #[.int .i64 0, .int .i64 0, .int .i64 0, .int .i64 0, .int .i64 0, .int .i64 0, .slice none 0 0, .int .i64 0, .int .i64 0, .int .i64 0, .int .i64 0] 25)
                  generalize wm.alloc (.cells #[.int .i64 0, .int .i64 0, .int .i64 0, .int .i64 0, .int .i64 0, .int .i64 0, .slice none 0 0, .int .i64 0, .int .i64 0, .int .i64 0, .int .i64 0] 25) = W9 at *
                  have hkb := HKC.out _ hbel
                  have hl0 : (1 : Int) ≤ (lf.size : Int) := by have := ht.1; omega
                  have ht2 := ht.2
                  have e11 : (1 : Int).toNat = 1 := rfl
                  have hwj : IntKind.i64.wrap ((j : Int) + 1) = (j : Int) + 1 := IntWalk.i64_in _ (by omega)
                  have hej : (((j : Int) + 1) == ((j : Int) + 1)) = true := by simp
                  go_wp2
                  go_ret
                  exact ⟨rfl, belStep HW.out (belStep HBW.out hbel)⟩
              | succ gq =>
                have hjm : j < m := by omega
                have hd3 : decide ((j : Int) < (m : Int)) = true := decide_eq_true (by omega)
                have hji : (j : Int) < (m : Int) := by omega
                have hj0 : (0 : Int) ≤ (j : Int) := by omega
                have hxs : sx.size ≤ 20000 := by rw [HSX.out]; exact Nat.le_trans (lessS_size LL k j) (by rw [← HSZ.out]; exact hs2)
                rcases Classical.em (j = k) with hjk | hjk
                · subst hjk
                  have t1 : ((j : Int) != (j : Int)) = false := by simp
                  have t2 : ((j : Int) == (j : Int)) = true := by simp
                  have HSY := Lib.hid (HSX.out.trans (lessS_skip LL j).symm)
                  go_wp2
                  go_roundg gq
                  case rel => exact ⟨j + 1, sx, by omega, rfl, by push_cast; rfl, HSY, hbel⟩
                  case measure => omega
                · have t1 : ((j : Int) != (k : Int)) = true := by rw [bne_iff_ne]; omega
                  have t2 : ((j : Int) == (k : Int)) = false := by rw [beq_eq_false_iff_ne]; omega
                  obtain ⟨F, hF⟩ : ∃ F, LL[j]? = some F := ⟨_, List.getElem?_eq_getElem (by have := HN.out; omega)⟩
                  have hcx := hcl.out _ hbel j F hF
                  have hls : (lineS F).size ≤ 20000 := Nat.le_trans (lineS_size hF) (by rw [← HSZ.out]; exact hs2)
                  have HSY := Lib.hid (show sx ++ lineS F = lessS LL k (j + 1) from by rw [HSX.out]; exact (lessS_next LL k hF hjk).symm)
                  clear hF
                  generalize lineS F = lf at *
                  have hcat : ¬ 9223372036854775807 < sx.size + lf.size := by omega
                  go_wp2
                  go_roundg gq
                  case rel => exact ⟨j + 1, sx ++ lf, by omega, rfl, by push_cast; rfl, HSY, hbel⟩
                  case measure => omega
          | succ gq =>
            have hil : i < S.size := by omega
            have hd : decide ((i : Int) < (S.size : Int)) = true := decide_eq_true (by omega)
            have hii : (i : Int) < (S.size : Int) := by omega
            have hi0 : (0 : Int) ≤ (i : Int) := by omega
            rcases Classical.em (S[i] = 10) with h10 | h10
            · have t10 : ((S[i].toNat : Int) == 10) = true := by rw [h10]; rfl
              obtain ⟨hL2_, hP2, hm2⟩ := HLA.out.hit HOK.out (by rw [← HSZ.out]; exact hil) (by rw [← s_at HS.out hil]; exact h10)
              have hF := List.getElem?_eq_getElem hm2
              generalize LL[m] = F at *
              have HF := Lib.hid hF
              clear hF
              have HL2 := Lib.hid hL2_
              have HP2 := Lib.hid hP2
              have hm18 : m < 18 := by have := HN.out; omega
              have hpi : pm ≤ i := by rw [← HPM.out]; exact HLA.out.lo
              have hcut := Lib.hid (show S.extract pm (i + 1) = lineS F by rw [← HS.out, ← HPM.out, ← hP2]; exact pos_mid LL HF.out)
              clear hL2_ hP2 h10 hm2
              have hs0 : (0 : Int) ≤ (pm : Int) := by omega
              have hs1 : (i : Int) + 1 ≤ (S.size : Int) := by omega
              have hs3 : (pm : Int) ≤ (i : Int) + 1 := by omega
              have hs4 : (0 : Int) ≤ (i : Int) + 1 := by omega
              have hwr : IntKind.i64.wrap ((i : Int) + 1) = (i : Int) + 1 := IntWalk.i64_in _ (by omega)
              have e1 : ((i : Int) + 1).toNat = i + 1 := by omega
              have hmx : max ((i : Int) + 1) 0 = (i : Int) + 1 := by omega
              have hNl : ((LL.take m).map lineS).length ≤ 18 := by rw [List.length_map, List.length_take]; omega
              generalize hNN : (LL.take m).map lineS = N at *
              have HNN := Lib.hid hNN
              clear hNN
              have HOA := Lib.hid (OwnR.alloc HO.out (.cells #[.string (S.extract pm (i + 1))] 9))
              have HRA := Lib.hid (row_new wr [.string (S.extract pm (i + 1))] 9 1 1 rfl (by unfold maxLen; omega))
              go_wp2_with (at_builtin; (refine wpList_app_row rfl _ _ 37 rfl W1.heap.size 9 _ 1 16 Tryd.underlying37 info_strI rfl (by decide) _ _ _ rfl HOA.out _ 1 1 [.string (S.extract pm (i + 1))] rfl HRA.out (str_oneL _) ?c1 ?c2 ?c3 ?_))
              case c1 => simp only [maxLen]; omega
              case c2 => omega
              case c3 => have := hbel.size; simp; omega
              intro v' w9 ho' hb' _
              have HO2 := Lib.hid (show OwnR w9 W1.heap.size 9 1 v' ((LL.take (m + 1)).map lineS).length (((LL.take (m + 1)).map lineS).map Value.string) from by have h := own_snocM (enc := Value.string) ho'; rw [hcut.out, ← HNN.out] at h; rw [List.take_add_one, HF.out]; simpa using h)
              have HB2 := Lib.hid ((belAlloc hbel (.cells #[.string (S.extract pm (i + 1))] 9)).trans hb')
              clear ho' hb' hbel
              go_wp2
              go_roundg gq
              case rel => exact ⟨i + 1, m + 1, i + 1, by omega, by push_cast; rfl, by push_cast; rfl, HP2, HL2, HO2, HB2.out⟩
              case measure => omega
            · have t10 : ((S[i].toNat : Int) == 10) = false := by rw [beq_eq_false_iff_ne]; exact u8_ne h10
              have HL2 := Lib.hid (HLA.out.miss HOK.out (by rw [← HSZ.out]; exact hil) (by rw [← s_at HS.out hil]; exact h10))
              clear h10
              go_wp2
              go_roundg gq
              case rel => exact ⟨i + 1, m, pm, by omega, rfl, by push_cast; rfl, HPM, HL2, HO, hbel⟩
              case measure => omega
theorem env_of {W : World} (h : laidMet Tryd.prog Rows.confLinesRow.laid W) (hs : W.ShapedOpen Tryd.prog) : Env W := env_of7 h hs

set_option maxRecDepth 100000 in
set_option maxRecDepth 100000 in
theorem lifted (os : Os) (started : os.Started) (H : Type) (enc : TypeId × Value → H) :
    ReturnsInHanded {} Tryd.checked os 5 .any (fun w args => (Rows.confLinesSpec.pre enc Tryd.prog Tryd.f5 [] false w args ∧ laidMetH Tryd.prog Rows.confLinesRow.laid w) ∧ sizedMet enc Tryd.prog Tryd.f5 (OpenSpec.ofChange Rows.confLinesSpec) false w args) (Rows.confLinesSpec.post enc Tryd.prog Tryd.f5 false true false false) := by
  refine returnsInHanded_of_change_and_shaped (C := Tryd.checked) (X := fun w _ => laidMetH Tryd.prog Rows.confLinesRow.laid w) (fun _ _ _ hh h => h.of_heap hh) own started (by kernel_rfl) Tryd.func5
    (ChangeSpec.witness_shaped (enc := enc) (C := Tryd.checked) (os := os) (X := fun w _ => laidMetH Tryd.prog Rows.confLinesRow.laid w) false (World.laidAll Tryd.prog os Rows.confLinesRow.laid) #[.agg #[.int .i64 0, .int .i64 0, .int .i64 0, .int .i64 0, .int .i64 0, .int .i64 0, .slice none 0 0, .int .i64 0, .int .i64 0, .int .i64 0, .int .i64 0], .int .u8 0] 8 (World.laidAll_os _ _ _) (World.shaped_of_ZipB (by kernel_rfl) (by kernel_rfl)) (by kernel_rfl) (by kernel_rfl) (by kernel_rfl) (by rw [MakeChecks.laidMetH_plain _ _ _ (by kernel_rfl)]; exact laidMet_laidAll _ (by kernel_rfl) (by kernel_rfl))) ?_
  intro W base args ds gs before hval0 hW hL hsh
  rw [MakeChecks.laidMetH_plain _ _ _ (by kernel_rfl)] at hL
  have ht : Env W := env_of hL hsh
  clear hL
  have hval : ∀ (j : Nat) t v, Tryd.f5.params[j]? = some t → args[j]? = some v → Value.okWide Tryd.prog W .any base t v := hval0
  have hW' := hW
  obtain ⟨p, q, hA0, hV, rfl, hfz, hnd⟩ := hW
  have hA : DataW.TrodAll enc Tryd.prog W 0 (fun _ => true) true Tryd.f5.params.toList args.toList ds p := hA0
  rw [Tryd.params5] at hA hval
  obtain ⟨v0, vs0, d0, ds0, p0, q0, hargs, rfl, rfl, h0, r0⟩ := trodAll_cons hA
  obtain ⟨v1, vs1, d1, ds1, p1, q1, rfl, rfl, rfl, h1, r1⟩ := trodAll_cons r0
  obtain ⟨rfl, rfl, rfl⟩ := trodAll_nil r1
  obtain rfl : args = #[v0, v1] := by cases args; simp_all
  obtain ⟨rfl, rfl⟩ := trodVars_none hV
  have k0 := h0
  have lt0 : ∀ x ∈ p0, x.block < W.heap.size := by obtain ⟨m, hm⟩ := k0; exact DataW.trod_lt m _ _ _ hm
  have o0 : Value.okWide Tryd.prog W .any base 25 v0 := hval 0 25 v0 rfl rfl
  obtain ⟨c0, ta0, tc0, rfl, hc0⟩ := open_cfg o0 h0
  have k1 := h1
  have lt1 : ∀ x ∈ p1, x.block < W.heap.size := by obtain ⟨m, hm⟩ := k1; exact DataW.trod_lt m _ _ _ hm
  have o1 : Value.okWide Tryd.prog W .any base 5 v1 := hval 1 5 v1 rfl rfl
  obtain ⟨a1, rfl, rfl, rfl, w1⟩ := open_int Tryd.underlying5 o1 h1
  clear hA0 hval0
  refine (walk c0 ta0 tc0 a1 W ht hc0 (in8_of_wf w1)).mono fun e W' ⟨he, bel⟩ => ?_
  subst he
  exact ⟨_, rfl, _, _, _, [], _, [], hW', trodAll_mk1 (shut_bool Tryd.underlying4 _), (trodAll_cons_mk (Below.trod laidOut (by kernel_rfl) (of_decide_eq_true (by kernel_rfl)) k0 bel lt0) (trodAll_cons_mk (Below.trod laidOut (by kernel_rfl) (of_decide_eq_true (by kernel_rfl)) k1 bel lt1) trodAll_mk0)), rfl, bel.frame _, fun h => by cases h⟩

theorem over : Rows.confLinesRow.holds Tryd.pinned (OpenSpec.ofChange Rows.confLinesSpec) :=
  OpenClaim.holds_of_wide 5 Tryd.f5 rfl rfl rfl rfl rfl rfl rfl ⟨rfl, rfl, rfl, rfl, rfl⟩ rfl rfl rfl rfl rfl (by kernel_rfl) Tryd.func5 (by kernel_rfl)
    (of_decide_eq_true (by kernel_rfl)) (by unfold Func.isWrapper; first | (rw [if_pos (by decide +kernel)]; kernel_rfl) | (rw [if_neg (by decide +kernel)]; exact ⟨rfl, rfl⟩))
    (fun os started H enc _ => lifted os started H enc)

/-- The statement. -/
theorem proved : Rows.ConfLinesCardSaid :=
  Claim7.holds_tied_plain_at .later [] Rows.confLinesCard.laidKinds true Rows.confLinesCard.stood.harness true
    over (fun _ h => by cases h) (by kernel_rfl) (fun _ h => by cases h) confLines_row_tie rfl ⟨rfl, rfl⟩ (by kernel_rfl) rfl
    (fun f fn hf hfn => by
      obtain rfl : f = 5 := Option.some.inj ((show Tryd.prog.funcNamed Rows.confLinesRow.func = some 5 by kernel_rfl).symm.trans hf) |>.symm
      obtain rfl : fn = Tryd.f5 := (Option.some.inj (Tryd.func5.symm.trans hfn)).symm
      exact ⟨by kernel_rfl, fun j t ht => by
        rw [Tryd.params5] at ht
        have hm : t ∈ [25, 5] := by simpa using Array.mem_of_getElem? ht
        have hall : ([25, 5].all fun u => !Tryd.prog.wantsStandIn u) = true := by kernel_rfl
        exact (show Tryd.prog.wantsStandIn t = false by simpa using List.all_eq_true.1 hall t hm)⟩)
    (by kernel_rfl)
#print axioms proved

end Go.Proofs.YtcaenbobfneejaaDoor.confLines
