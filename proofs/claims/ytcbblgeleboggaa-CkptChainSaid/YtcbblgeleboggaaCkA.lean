
/- Stage 11: the disk of a checkpoint, by definition: plain lists. Stage 11: ckpt's functions: contracts. Stage 11: ckpt.Open: contracts. Stage 11: the steps of a save: contracts. -/
import Derived.Test.YtcbblgeleboggaaDkC
import Derived.Test.YtcbblgeleboggaaFrameGet
import Derived.Deep.RegionWith
namespace Go.Proofs.Ytcbblgeleboggaa
open Go.RowKit
set_option linter.unusedVariables false
set_option linter.unusedSimpArgs false
def nMain : ByteArray := ⟨#[109, 97, 105, 110]⟩
def nTemp : ByteArray := ⟨#[116, 101, 109, 112]⟩
def ckF (o t : Option (List Int)) : List FileM := (match o with | none => [] | some b => [⟨nMain, b⟩]) ++ (match t with | none => [] | some b => [⟨nTemp, b⟩])
/-- Nothing is open; the files are those two at most. -/
def ckD (c : Nat) (o t : Option (List Int)) : DiskV := ⟨ckF o t, [], c⟩
theorem mt_lt : nMain.toList < nTemp.toList := by unfold nMain nTemp; rw [ByteArray.toList_eq, ByteArray.toList_eq]; decide
theorem mt_ne : (nMain.toList == nTemp.toList) = false := lt_neB mt_lt
theorem tm_ne : (nTemp.toList == nMain.toList) = false := by rw [Bool.beq_comm]; exact mt_ne
theorem ckF_sorted (o t : Option (List Int)) : SortedF (ckF o t) := by
  unfold SortedF ckF
  cases o <;> cases t <;> simp [mt_lt]
theorem ckF_get (o t : Option (List Int)) (s : ByteArray) : getF (ckF o t) s = if (nMain.toList == s.toList) = true then o else if (nTemp.toList == s.toList) = true then t else none := by
  unfold getF ckF
  cases e1 : nMain.toList == s.toList with
  | true =>
    have e2 : (nTemp.toList == s.toList) = false := by rw [← eq_of_beq e1]; exact tm_ne
    cases o <;> cases t <;> simp [List.find?_cons, e1, e2]
  | false =>
    cases e2 : nTemp.toList == s.toList <;> cases o <;> cases t <;> simp [List.find?_cons, e1, e2]
theorem ckF_main (o t : Option (List Int)) : getF (ckF o t) nMain = o := by rw [ckF_get, if_pos (by simp)]
theorem ckF_temp (o t : Option (List Int)) : getF (ckF o t) nTemp = t := by rw [ckF_get, mt_ne, if_neg (by simp), if_pos (by simp)]
theorem ckF_putT (o t : Option (List Int)) (f : List Int) : putF (ckF o t) nTemp f = ckF o (some f) := files_ext (sorted_putF (ckF_sorted o t) _ _) (ckF_sorted _ _) (fun s => by
  rw [find_putF, ckF_get, ckF_get]
  cases e2 : nTemp.toList == s.toList with
  | true => rw [if_pos rfl, show (nMain.toList == s.toList) = false by rw [← eq_of_beq e2]; exact mt_ne]; rfl
  | false => rw [if_neg (by simp)]; rfl)
theorem ckF_putM (o t : Option (List Int)) (f : List Int) : putF (ckF o t) nMain f = ckF (some f) t := files_ext (sorted_putF (ckF_sorted o t) _ _) (ckF_sorted _ _) (fun s => by
  rw [find_putF, ckF_get, ckF_get]
  cases e2 : nMain.toList == s.toList with
  | true => rfl
  | false => rw [if_neg (by simp)]; rfl)
theorem ckF_delT (o t : Option (List Int)) : delF (ckF o t) nTemp = ckF o none := files_ext (sorted_delF (ckF_sorted o t) _) (ckF_sorted _ _) (fun s => by
  rw [find_delF, ckF_get, ckF_get]
  cases e2 : nTemp.toList == s.toList with
  | true => rw [if_pos rfl, show (nMain.toList == s.toList) = false by rw [← eq_of_beq e2]; exact mt_ne]; rfl
  | false => rw [if_neg (by simp)]; rfl)
theorem ckF_move (o : Option (List Int)) (f : List Int) : moveF (ckF o (some f)) nTemp nMain = ckF (some f) none := by
  rw [move_get (ckF_temp o (some f)) tm_ne, ckF_putM, ckF_delT]
theorem ckF_len (o : Option (List Int)) : (ckF o none).length = if o.isSome then 1 else 0 := by cases o <;> rfl
def wOp (f : List Int) : MOp := ⟨1, nTemp, ⟨#[]⟩, f⟩
def mOp : MOp := ⟨2, nTemp, nMain, []⟩
def rOp : MOp := ⟨3, nTemp, ⟨#[]⟩, []⟩
def kOp (f : List Int) : MOp := ⟨1, nMain, ⟨#[]⟩, f⟩
theorem n_main : namedM nMain = true := by decide +kernel
theorem n_temp : namedM nTemp = true := by decide +kernel
theorem r_w (f : List Int) : rightM (wOp f) = true := by unfold rightM wOp; rw [if_pos rfl]; exact n_temp
theorem r_m : rightM mOp = true := by unfold rightM mOp; rw [if_neg (by decide), if_pos rfl, n_temp, n_main]; rfl
theorem r_r : rightM rOp = true := by unfold rightM rOp; rw [if_neg (by decide), if_neg (by decide), if_pos rfl]; exact n_temp
theorem r_k (f : List Int) : rightM (kOp f) = true := by unfold rightM kOp; rw [if_pos rfl]; exact n_main
theorem e_w (f : List Int) : doE (wOp f) = 0 := by unfold doE; rw [r_w]; rfl
theorem e_m : doE mOp = 0 := by unfold doE; rw [r_m]; rfl
theorem e_r : doE rOp = 0 := by unfold doE; rw [r_r]; rfl
theorem e_k (f : List Int) : doE (kOp f) = 0 := by unfold doE; rw [r_k]; rfl
theorem d_w (d : DiskV) (f : List Int) : doW d (wOp f) = { d with done := d.done ++ [wOp f] } := by unfold doW; rw [r_w]; rfl
theorem d_m (d : DiskV) : doW d mOp = { d with done := d.done ++ [mOp] } := by unfold doW; rw [r_m]; rfl
theorem d_r (d : DiskV) : doW d rOp = { d with done := d.done ++ [rOp] } := by unfold doW; rw [r_r]; rfl
theorem d_k (d : DiskV) (f : List Int) : doW d (kOp f) = { d with done := d.done ++ [kOp f] } := by unfold doW; rw [r_k]; rfl
theorem a_w (L : List FileM) (f : List Int) : applyF L (wOp f) = putF L nTemp f := rfl
theorem a_m (L : List FileM) : applyF L mOp = moveF L nTemp nMain := rfl
theorem a_r (L : List FileM) : applyF L rOp = delF L nTemp := rfl
theorem a_k (L : List FileM) (f : List Int) : applyF L (kOp f) = putF L nMain f := rfl
/-- Behind the first n steps of a save of the frame f. -/
def partD (c : Nat) (o : Option (List Int)) (f : List Int) : Nat → DiskV
  | 0 => ckD c o none
  | 1 => ⟨ckF o none, [wOp f], c⟩
  | 2 => ckD (c + 1) o (some f)
  | 3 => ⟨ckF o (some f), [mOp], c + 1⟩
  | _ => ckD (c + 2) (some f) none
theorem part_1 (c : Nat) (o : Option (List Int)) (f : List Int) : doW (partD c o f 0) (wOp f) = partD c o f 1 := d_w _ _
theorem part_2 (c : Nat) (o : Option (List Int)) (f : List Int) : syncW (partD c o f 1) = partD c o f 2 := by
  show (⟨applyF (ckF o none) (wOp f), [], c + 1⟩ : DiskV) = ⟨ckF o (some f), [], c + 1⟩
  rw [a_w, ckF_putT]
theorem part_3 (c : Nat) (o : Option (List Int)) (f : List Int) : doW (partD c o f 2) mOp = partD c o f 3 := d_m _
theorem part_4 (c : Nat) (o : Option (List Int)) (f : List Int) : syncW (partD c o f 3) = partD c o f 4 := by
  show (⟨applyF (ckF o (some f)) mOp, [], c + 1 + 1⟩ : DiskV) = ⟨ckF (some f) none, [], c + 2⟩
  rw [a_m, ckF_move]
theorem part_cap (c : Nat) (o : Option (List Int)) (f : List Int) (n : Nat) : (partD c o f n).cap + (partD c o f n).done.length ≤ c + 2 := by
  unfold partD ckD
  split <;> simp
theorem clean_d (c : Nat) (o t : Option (List Int)) : syncW (doW (ckD c o t) rOp) = ckD (c + 1) o none := by
  rw [d_r]
  show (⟨applyF (ckF o t) rOp, [], c + 1⟩ : DiskV) = ⟨ckF o none, [], c + 1⟩
  rw [a_r, ckF_delT]
/-- What a crash that keeps K leaves as the checkpoint. -/
def keptF (o : Option (List Int)) (f : List Int) (n : Nat) (K : List Int) : Option (List Int) := if 4 ≤ n ∨ (n = 3 ∧ K.headD 0 ≠ 0) then some f else o
theorem crash_part (c : Nat) (o : Option (List Int)) (f : List Int) (n : Nat) (K : List Int) : ∃ c' t', c' ≤ c + 2 ∧ crashW (partD c o f n) K = ckD c' (keptF o f n K) t' := by
  match n with
  | 0 => exact ⟨c, none, by omega, by unfold keptF; rw [if_neg (by omega)]; rfl⟩
  | 1 =>
    unfold keptF
    rw [if_neg (by omega)]
    cases K with
    | nil => exact ⟨c + 1, none, by omega, rfl⟩
    | cons k r =>
      by_cases hk : k = 0
      · exact ⟨c + 1, none, by omega, by show (⟨crashS (ckF o none) (wOp f, k), [], c + 1⟩ : DiskV) = _; unfold crashS; rw [if_pos hk]; rfl⟩
      · refine ⟨c + 1, some (partM (wOp f) k).Z, by omega, ?_⟩
        show (⟨crashS (ckF o none) (wOp f, k), [], c + 1⟩ : DiskV) = _
        unfold crashS
        rw [if_neg hk]
        have h1 : applyF (ckF o none) (partM (wOp f) k) = putF (ckF o none) nTemp (partM (wOp f) k).Z := by unfold partM; split <;> rfl
        rw [h1, ckF_putT]; rfl
  | 2 => exact ⟨c + 1, some f, by omega, by unfold keptF; rw [if_neg (by omega)]; rfl⟩
  | 3 =>
    unfold keptF
    cases K with
    | nil => exact ⟨c + 2, some f, by omega, by rw [if_neg (by simp)]; rfl⟩
    | cons k r =>
      by_cases hk : k = 0
      · exact ⟨c + 2, some f, by omega, by rw [if_neg (by simp [hk])]; show (⟨crashS (ckF o (some f)) (mOp, k), [], c + 1 + 1⟩ : DiskV) = _; unfold crashS; rw [if_pos hk]; rfl⟩
      · refine ⟨c + 2, none, by omega, ?_⟩
        rw [if_pos (.inr ⟨rfl, by simpa using hk⟩)]
        show (⟨crashS (ckF o (some f)) (mOp, k), [], c + 1 + 1⟩ : DiskV) = _
        unfold crashS
        rw [if_neg hk]
        have h1 : applyF (ckF o (some f)) (partM mOp k) = moveF (ckF o (some f)) nTemp nMain := by unfold partM; rw [if_neg (by unfold mOp; simp)]; rfl
        rw [h1, ckF_move]; rfl
  | n + 4 => exact ⟨c + 2, none, by omega, by unfold keptF; rw [if_pos (.inl (by omega))]; rfl⟩
end Go.Proofs.Ytcbblgeleboggaa
namespace Go.Proofs.Ytcbblgeleboggaa
open Go.RowKit Go.Sort Go.Maps
set_option linter.unusedVariables false
set_option linter.unusedSectionVars false
set_option linter.unusedSimpArgs false
theorem Free.below {X : List Nat} {u w : World} (h : Below u.heap.size u w) : Free X u w := ⟨[], Apart.of_below h, fun b _ q => by cases q⟩
theorem Free.trans {X : List Nat} {u v w : World} (h : Free X u v) (k : Free X v w) : Free X u w := by
  obtain ⟨F, h1, h2⟩ := h
  obtain ⟨G, k1, k2⟩ := k
  exact ⟨F ++ G, (h1.weaken (fun b hb => List.mem_append_left _ hb)).trans (k1.weaken (fun b hb => List.mem_append_right _ hb)), fun b hb q => (List.mem_append.1 q).elim (h2 b hb) (k2 b hb)⟩
theorem Free.mono {X Y : List Nat} {u w : World} (h : Free X u w) (hY : ∀ b ∈ Y, b ∈ X) : Free Y u w := by
  obtain ⟨F, h1, h2⟩ := h
  exact ⟨F, h1, fun b hb => h2 b (hY b hb)⟩
theorem Free.blk {X : List Nat} {u w : World} (h : Free X u w) {g : Nat} {C : List Value} {T : TypeId} (hb : Blk u g C T) (hg : g ∈ X) : Blk w g C T := by
  obtain ⟨F, h1, h2⟩ := h
  exact hb.apart h1 (h2 g hg)
theorem Free.size {X : List Nat} {u w : World} (h : Free X u w) : u.heap.size ≤ w.heap.size := by
  obtain ⟨F, h1, _⟩ := h
  exact h1.size
theorem DKv.mine {B : Nat} {u w : World} {M : Nat} {X : List Nat} {d : DiskV} (h : DKv B u M X d) (hA : Apart X u w) : DKv B w M X d := by
  obtain ⟨F, h1, h2⟩ := h
  exact ⟨F, h1.mine hA, h2⟩
/-- A store at N: its disk, its version. -/
def StA (w : World) (N M : Nat) (v : Int) : Prop := Blk w N [.pointer (some ⟨M, 0, none⟩), .int .i64 v] 64
section
variable (B : Nat) (M : Nat) (X : List Nat) (c : Nat) (o t : Option (List Int)) (w : World)
set_option maxRecDepth 100000 in
set_option maxHeartbeats 8000000 in
theorem ck_clean (h : DKv B w M X (ckD c o t)) (hX : ∀ b ∈ X, b < w.heap.size) (hB : B ≤ w.heap.size) (hc : c ≤ 90000) :
    Calls Try.prog 25 #[.pointer (some ⟨M, 0, none⟩)] w fun e w' => e = .returned (.tuple #[]) ∧ ∃ c', c' ≤ c + 1 ∧ DKv B w' M X (ckD c' o none) ∧ Below B w w' ∧ Free X w w' := by
  have C1 := Lib.hid (show Calls Try.prog 14 #[.pointer (some ⟨M, 0, none⟩), .string ⟨#[116, 101, 109, 112]⟩] w (fun e w' => ∃ v, e = .returned (.tuple #[v, .int .i64 (rdE t)]) ∧ DKv B w' M X (ckD c o t) ∧ Below w.heap.size w w') from (dl_Read B M X _ w h hB (by show c + 0 ≤ 100000; omega) nTemp (by decide +kernel)).mono (by rintro e wq ⟨a, k, rfl, _, _, _, h2, h3⟩; exact ⟨_, congrArg (fun z => Ending.returned (.tuple #[_, .int .i64 (rdE z)])) (ckF_temp o t), h2, h3⟩))
  have HX := Lib.hid hX
  clear hX h
  cases t with
  | none =>
    have C1b := C1.out
    rw [show rdE (none : Option (List Int)) = 4 from rfl] at C1b
    have C2 := Lib.hid C1b
    clear C1b C1
    go_enter Try.func25, Try.ntmps25
    go_wp2_with (go_at_call 14; (with_reducible refine (C2.out).mono ?_); rintro e w1 ⟨v, rfl, hd_, hb_⟩)
    go_end0
    exact ⟨rfl, c, by omega, hd_, hb_.mono hB, Free.below hb_⟩
  | some z =>
    have C1b := C1.out
    rw [show rdE (some z) = 0 from rfl] at C1b
    have C2 := Lib.hid C1b
    clear C1b C1
    go_enter Try.func25, Try.ntmps25
    go_upto_region 2 with (go_at_call 14; (with_reducible refine (C2.out).mono ?_); rintro e w1 ⟨v, rfl, hd_, hb_⟩; have HD := Lib.hid hd_; have HB := Lib.hid hb_; clear hd_ hb_)
    have C3 := Lib.hid (show Calls Try.prog 21 #[.pointer (some ⟨M, 0, none⟩), .agg #[.int .i64 3, .string ⟨#[116, 101, 109, 112]⟩, .string ⟨#[]⟩, .slice none 0 0]] w1 (fun e w' => e = .returned (.int .i64 0) ∧ DKv B w' M X (doW (ckD c o (some z)) rOp) ∧ Below B w1 w' ∧ Free X w1 w') from (dl_Do B M X _ w1 HD.out (fun b hb => Nat.lt_of_lt_of_le (HX.out b hb) HB.out.size) (Nat.le_trans hB HB.out.size) (by show c + 0 ≤ 100000; omega) ⟨3, ⟨#[116, 101, 109, 112]⟩, ⟨#[]⟩, none, 0, []⟩ (ints_nil _ _) (Nat.zero_le _) ⟨show (⟨#[116, 101, 109, 112]⟩ : ByteArray).size ≤ maxLen by decide +kernel, show (⟨#[]⟩ : ByteArray).size ≤ maxLen by decide +kernel, ⟨show (-9223372036854775808 : Int) ≤ 3 by omega, show (3 : Int) ≤ 9223372036854775807 by omega⟩⟩).mono (by rintro e wq ⟨h1, h2, h3⟩; exact ⟨h1.trans (congrArg (fun z => Ending.returned (.int .i64 z)) e_r), h2, h3⟩))
    go_upto_region 3 with (go_at_call 21; (with_reducible refine (C3.out).mono ?_); rintro e w2 ⟨rfl, hd_, hb_, hf_⟩; have HD2 := Lib.hid hd_; have HB2 := Lib.hid hb_; have HF2 := Lib.hid hf_; clear hd_ hb_ hf_)
    have C4 := Lib.hid (dl_Sync B M X _ w2 HD2.out (fun b hb => Nat.lt_of_lt_of_le (HX.out b hb) (Nat.le_trans HB.out.size HB2.out.size)) (Nat.le_trans hB (Nat.le_trans HB.out.size HB2.out.size)) (by rw [d_r]; show c + 1 ≤ 100000; omega))
    go_wp2_with (go_at_call 22; (with_reducible refine (C4.out).mono ?_); rintro e w3 ⟨rfl, hd_, hb_, hf_⟩)
    go_end0
    rw [clean_d] at hd_
    exact ⟨rfl, c + 1, by omega, hd_, ((HB.out.mono hB).trans HB2.out).trans hb_, ((Free.below HB.out).trans HF2.out).trans hf_⟩
end
end Go.Proofs.Ytcbblgeleboggaa
namespace Go.Proofs.Ytcbblgeleboggaa
open Go.RowKit Go.Sort Go.Maps
set_option linter.unusedVariables false
set_option linter.unusedSectionVars false
set_option linter.unusedSimpArgs false
/-- Behind Open: the disk without a draft. -/
def OpR (B : Nat) (w w' : World) (M : Nat) (X Z : List Nat) (c : Nat) (o : Option (List Int)) : Prop := (∃ c', c' ≤ c + 1 ∧ DKv B w' M Z (ckD c' o none)) ∧ Below B w w' ∧ Free X w w'
theorem OpR.later {B : Nat} {w u v : World} {M : Nat} {X Z : List Nat} {c : Nat} {o : Option (List Int)} (h : OpR B w u M X Z c o) (hb : Below u.heap.size u v) (hB : B ≤ w.heap.size) : OpR B w v M X Z c o := by
  obtain ⟨⟨c', h1, h2⟩, h3, h4⟩ := h
  exact ⟨⟨c', h1, h2.later hb⟩, h3.trans (hb.mono (Nat.le_trans hB h3.size)), h4.trans (Free.below hb)⟩
section
variable (B : Nat) (M : Nat) (X : List Nat) (c : Nat) (o t : Option (List Int)) (w : World)
/-- Region 2: main is read. -/
theorem ck_main (h : DKv B w M X (ckD c o none)) (hB : B ≤ w.heap.size) (hc : c ≤ 90001) : Calls Try.prog 14 #[.pointer (some ⟨M, 0, none⟩), .string ⟨#[109, 97, 105, 110]⟩] w (fun e w' => ∃ a k, e = .returned (.tuple #[.slice a (o.getD []).length k, .int .i64 (rdE o)]) ∧ Ints .u8 w' a (o.getD []).length k (o.getD []) ∧ (o.getD []).length ≤ 1000000 ∧ DKv B w' M X (ckD c o none) ∧ Below w.heap.size w w') := by
  have e1 : getF (ckD c o none).look nMain = o := ckF_main o none
  have z := dl_Read B M X _ w h hB (show c + 0 ≤ 100000 by omega) nMain (by decide +kernel)
  rw [e1] at z
  refine z.mono ?_
  rintro e wq ⟨a, k, rfl, h1, h2, _, h4, h5⟩
  exact ⟨a, k, rfl, h1, h2, h4, h5⟩
set_option maxRecDepth 100000 in
set_option maxHeartbeats 8000000 in
theorem ck_Open_none (h : DKv B w M X (ckD c none t)) (hX : ∀ b ∈ X, b < w.heap.size) (hB : B ≤ w.heap.size) (hc : c ≤ 90000) :
    Calls Try.prog 11 #[.pointer (some ⟨M, 0, none⟩)] w fun e w' => ∃ N, e = .returned (.tuple #[.pointer (some ⟨N, 0, none⟩), .slice none 0 0, .int .i64 4]) ∧ StA w' N M 0 ∧ w.heap.size ≤ N ∧ OpR B w w' M X (N :: X) c none := by
  have C1 := Lib.hid (ck_clean B M X c none t w h hX hB hc)
  clear h
  go_enter Try.func11, Try.ntmps11
  go_upto_region 2 with (go_at_call 25; (with_reducible refine (C1.out).mono ?_); rintro e w1 ⟨rfl, c1, hc_, hd_, hb_, hf_⟩; have HD := Lib.hid hd_; have HB := Lib.hid hb_; have HF := Lib.hid hf_; clear hd_ hb_ hf_ C1)
  have z2 := ck_main B M X c1 none w1 HD.out (Nat.le_trans hB HF.out.size) (by omega)
  rw [show (Option.getD (none : Option (List Int)) ([] : List Int)).length = 0 from rfl, show rdE (none : Option (List Int)) = 4 from rfl] at z2
  have C2 := Lib.hid z2
  clear z2
  go_upto_region 4 with (go_at_call 14; (with_reducible refine (C2.out).mono ?_); rintro e w2 ⟨a, k, rfl, _, _, hd_, hb_⟩; have HD2 := Lib.hid hd_; have HB2 := Lib.hid hb_; clear hd_ hb_ C2)
  go_wp2
  go_ret3
  have kA := belAlloc (Below.refl w2.heap.size w2) (.cells #[.pointer (some ⟨M, 0, none⟩), .int .i64 0] 64)
  have hO : OpR B w w2 M X (w2.heap.size :: X) c none := ⟨⟨c1, hc_, HD2.out.more (fun b hb => (List.mem_cons.1 hb).elim (fun q => .inr (Nat.le_of_eq q.symm)) .inl)⟩, HB.out.trans (HB2.out.mono (Nat.le_trans hB HF.out.size)), HF.out.trans (Free.below HB2.out)⟩
  exact ⟨_, rfl, Blk.new w2 [.pointer (some ⟨M, 0, none⟩), .int .i64 0] 64, Nat.le_trans HF.out.size HB2.out.size, hO.later kA hB⟩
set_option maxRecDepth 100000 in
set_option maxHeartbeats 8000000 in
theorem ck_Open_ok (b : List Int) (v : Nat) (x : List Int) (k : Nat) (hf : IsFrame b v x) (hk : x.length = k) (h : DKv B w M X (ckD c (some b) t)) (hX : ∀ b ∈ X, b < w.heap.size) (hB : B ≤ w.heap.size) (hc : c ≤ 90000) :
    Calls Try.prog 11 #[.pointer (some ⟨M, 0, none⟩)] w fun e w' => ∃ N g c2 ax cx, e = .returned (.tuple #[.pointer (some ⟨N, 0, none⟩), .slice ax k cx, .int .i64 0]) ∧ (0 < k → ax = some ⟨g, 12, none⟩) ∧ (w.heap.size ≤ g ∧ k ≤ cx ∧ cx ≤ 9223372036854775807) ∧ OwnI w' w.heap.size 5 .u8 (.slice (some ⟨g, 0, none⟩) (k + 12) c2) (headL v x) ∧ Ints .u8 w' ax k cx x ∧ StA w' N M v ∧ w.heap.size ≤ N ∧ g < w'.heap.size ∧ OpR B w w' M X (N :: g :: X) c (some b) := by
  have C1 := Lib.hid (ck_clean B M X c (some b) t w h hX hB hc)
  have HFR := Lib.hid hf
  clear h hf
  go_enter Try.func11, Try.ntmps11
  go_upto_region 2 with (go_at_call 25; (with_reducible refine (C1.out).mono ?_); rintro e w1 ⟨rfl, c1, hc_, hd_, hb_, hf_⟩; have HD := Lib.hid hd_; have HB := Lib.hid hb_; have HF := Lib.hid hf_; clear hd_ hb_ hf_ C1)
  have z2 := ck_main B M X c1 (some b) w1 HD.out (Nat.le_trans hB HF.out.size) (by omega)
  rw [show rdE (some b) = 0 from rfl, show (Option.getD (some b) ([] : List Int)) = b from rfl] at z2
  have C2 := Lib.hid z2
  clear z2
  go_upto_region 5 with (go_at_call 14; (with_reducible refine (C2.out).mono ?_); rintro e w2 ⟨a, cap, rfl, hi_, hl_, hd_, hb_⟩; have HI := Lib.hid hi_; have HD2 := Lib.hid hd_; have HB2 := Lib.hid hb_; clear hd_ hb_ hi_ C2)
  have C3 := Lib.hid (frame_Get_ok a b.length cap b w2 HI.out hl_ v x k HFR.out hk)
  go_upto_region 8 with (go_at_call 26; (with_reducible refine (C3.out).mono ?_); rintro e w3 ⟨g, c2, ax, cx, rfl, ha_, ⟨hq1, hq2, hq3⟩, ho_, hi3_, hb_⟩; have HA := Lib.hid ha_; have HO := Lib.hid ho_; have HI3 := Lib.hid hi3_; have HB3 := Lib.hid hb_; clear ha_ ho_ hi3_ hb_ C3)
  go_wp2
  go_ret3
  have kA := belAlloc (Below.refl w3.heap.size w3) (.cells #[.pointer (some ⟨M, 0, none⟩), .int .i64 (v : Int)] 64)
  have hs2 : w.heap.size ≤ w2.heap.size := Nat.le_trans HF.out.size HB2.out.size
  have hs3 : w.heap.size ≤ w3.heap.size := Nat.le_trans hs2 HB3.out.size
  have hO : OpR B w w3 M X (w3.heap.size :: g :: X) c (some b) := ⟨⟨c1, hc_, ((HD2.out.more (Y := g :: X) (fun b hb => (List.mem_cons.1 hb).elim (fun q => .inr (by rw [q]; exact hq1)) .inl)).later HB3.out).more (fun b hb => (List.mem_cons.1 hb).elim (fun q => .inr (Nat.le_of_eq q.symm)) .inl)⟩, (HB.out.trans (HB2.out.mono (Nat.le_trans hB HF.out.size))).trans (HB3.out.mono (Nat.le_trans hB hs2)), (HF.out.trans (Free.below HB2.out)).trans (Free.below HB3.out)⟩
  exact ⟨_, g, c2, ax, cx, rfl, HA.out, ⟨Nat.le_trans hs2 hq1, hq2, hq3⟩, (OwnI.mono HO.out hs2).later kA, HI3.out.later kA, Blk.new w3 [.pointer (some ⟨M, 0, none⟩), .int .i64 (v : Int)] 64, hs3, by have h1 : g < w3.heap.size := (own_type (show OwnR w3 _ 5 1 (.slice (some ⟨g, 0, none⟩) (k + 12) c2) _ _ from HO.out) rfl).2.1; have h2 := kA.size; omega, hO.later kA hB⟩
set_option maxRecDepth 100000 in
set_option maxHeartbeats 8000000 in
theorem ck_Open_no (b : List Int) (hf : NoFrame b) (h : DKv B w M X (ckD c (some b) t)) (hX : ∀ b ∈ X, b < w.heap.size) (hB : B ≤ w.heap.size) (hc : c ≤ 90000) :
    Calls Try.prog 11 #[.pointer (some ⟨M, 0, none⟩)] w fun e w' => e = .returned (.tuple #[.pointer none, .slice none 0 0, .int .i64 3]) ∧ OpR B w w' M X X c (some b) := by
  have C1 := Lib.hid (ck_clean B M X c (some b) t w h hX hB hc)
  have HFR := Lib.hid hf
  clear h hf
  go_enter Try.func11, Try.ntmps11
  go_upto_region 2 with (go_at_call 25; (with_reducible refine (C1.out).mono ?_); rintro e w1 ⟨rfl, c1, hc_, hd_, hb_, hf_⟩; have HD := Lib.hid hd_; have HB := Lib.hid hb_; have HF := Lib.hid hf_; clear hd_ hb_ hf_ C1)
  have z2 := ck_main B M X c1 (some b) w1 HD.out (Nat.le_trans hB HF.out.size) (by omega)
  rw [show rdE (some b) = 0 from rfl, show (Option.getD (some b) ([] : List Int)) = b from rfl] at z2
  have C2 := Lib.hid z2
  clear z2
  go_upto_region 5 with (go_at_call 14; (with_reducible refine (C2.out).mono ?_); rintro e w2 ⟨a, cap, rfl, hi_, hl_, hd_, hb_⟩; have HI := Lib.hid hi_; have HD2 := Lib.hid hd_; have HB2 := Lib.hid hb_; clear hd_ hb_ hi_ C2)
  have C3 := Lib.hid (frame_Get_no a b.length cap b w2 HI.out hl_ HFR.out)
  go_upto_region 7 with (go_at_call 26; (with_reducible refine (C3.out).mono ?_); rintro e w3 ⟨rfl, hb_⟩; have HB3 := Lib.hid hb_; clear hb_ C3)
  go_wp2
  go_ret3
  have hs2 : w.heap.size ≤ w2.heap.size := Nat.le_trans HF.out.size HB2.out.size
  exact ⟨rfl, ⟨c1, hc_, HD2.out.later HB3.out⟩, (HB.out.trans (HB2.out.mono (Nat.le_trans hB HF.out.size))).trans (HB3.out.mono (Nat.le_trans hB hs2)), (HF.out.trans (Free.below HB2.out)).trans (Free.below HB3.out)⟩
end
end Go.Proofs.Ytcbblgeleboggaa
namespace Go.Proofs.Ytcbblgeleboggaa
open Go.RowKit Go.Sort Go.Maps
set_option linter.unusedVariables false
set_option linter.unusedSectionVars false
set_option linter.unusedSimpArgs false
section
variable (B : Nat) (M : Nat) (X : List Nat) (d : DiskV) (w : World) (h : DKv B w M X d) (hX : ∀ b ∈ X, b < w.heap.size) (hB : B ≤ w.heap.size) (hc : d.cap + d.done.length ≤ 100000)
include h hX hB hc
theorem ck_write (N bs bb : Nat) (v : Int) (a : Option Addr) (cap : Nat) (Z : List Int) (zn : Nat) (hzn : Z.length = zn) (hn : StA w N M v) (hs : Blk w bs [.pointer (some ⟨N, 0, none⟩)] 28) (hb : Blk w bb [.slice a zn cap] 29) (hZ : Ints .u8 w a zn cap Z) (hl : Z.length ≤ 1000000) :
    Calls Try.prog 48 #[.pointer (some ⟨bs, 0, none⟩), .pointer (some ⟨bb, 0, none⟩)] w fun e w' => e = .returned (.tuple #[]) ∧ DKv B w' M X (doW d (wOp Z)) ∧ Below B w w' ∧ Free X w w' := by
  subst hzn
  have kd : Below w.heap.size w w.drew := belDrew (Below.refl w.heap.size w)
  have C3 := Lib.hid (show Calls Try.prog 21 #[.pointer (some ⟨M, 0, none⟩), .agg #[.int .i64 1, .string ⟨#[116, 101, 109, 112]⟩, .string ⟨#[]⟩, .slice a Z.length cap]] w.drew (fun e w' => e = .returned (.int .i64 0) ∧ DKv B w' M X (doW d (wOp Z)) ∧ Below B w w' ∧ Free X w w') from (dl_Do B M X _ w.drew (h.later kd) (fun b hb => Nat.lt_of_lt_of_le (hX b hb) kd.size) (Nat.le_trans hB kd.size) hc ⟨1, ⟨#[116, 101, 109, 112]⟩, ⟨#[]⟩, a, cap, Z⟩ (hZ.later kd) hl ⟨show (⟨#[116, 101, 109, 112]⟩ : ByteArray).size ≤ maxLen by decide +kernel, show (⟨#[]⟩ : ByteArray).size ≤ maxLen by decide +kernel, ⟨show (-9223372036854775808 : Int) ≤ 1 by omega, show (1 : Int) ≤ 9223372036854775807 by omega⟩⟩).mono (by rintro e wq ⟨h1, h2, h3, h4⟩; exact ⟨h1.trans (congrArg (fun z => Ending.returned (.int .i64 z)) (e_w Z)), h2, (kd.mono hB).trans h3, (Free.below kd).trans h4⟩))
  have n0 := Blk.cell hn (j := 0) rfl
  have s0 := hs.cell (j := 0) rfl
  have b0 := hb.cell (j := 0) rfl
  clear h hX hn hs hb hZ
  go_enter Try.func48, Try.ntmps48
  go_region_with (go_at_call 21; (with_reducible refine (C3.out).mono ?_); rintro e w3 ⟨rfl, hd_, hb_, hf_⟩)
  all_goals (go_wp2; go_end0; exact ⟨rfl, hd_, hb_, hf_⟩)
theorem ck_rename (N bs : Nat) (v : Int) (hn : StA w N M v) (hs : Blk w bs [.pointer (some ⟨N, 0, none⟩)] 28) :
    Calls Try.prog 49 #[.pointer (some ⟨bs, 0, none⟩)] w fun e w' => e = .returned (.tuple #[]) ∧ DKv B w' M X (doW d mOp) ∧ Below B w w' ∧ Free X w w' := by
  have C3 := Lib.hid (show Calls Try.prog 21 #[.pointer (some ⟨M, 0, none⟩), .agg #[.int .i64 2, .string ⟨#[116, 101, 109, 112]⟩, .string ⟨#[109, 97, 105, 110]⟩, .slice none 0 0]] w (fun e w' => e = .returned (.int .i64 0) ∧ DKv B w' M X (doW d mOp) ∧ Below B w w' ∧ Free X w w') from (dl_Do B M X _ w h hX hB hc ⟨2, ⟨#[116, 101, 109, 112]⟩, ⟨#[109, 97, 105, 110]⟩, none, 0, []⟩ (ints_nil _ _) (Nat.zero_le _) ⟨show (⟨#[116, 101, 109, 112]⟩ : ByteArray).size ≤ maxLen by decide +kernel, show (⟨#[109, 97, 105, 110]⟩ : ByteArray).size ≤ maxLen by decide +kernel, ⟨show (-9223372036854775808 : Int) ≤ 2 by omega, show (2 : Int) ≤ 9223372036854775807 by omega⟩⟩).mono (by rintro e wq ⟨h1, h2, h3⟩; exact ⟨h1.trans (congrArg (fun z => Ending.returned (.int .i64 z)) e_m), h2, h3⟩))
  have n0 := Blk.cell hn (j := 0) rfl
  have s0 := hs.cell (j := 0) rfl
  clear h hX hn hs
  go_enter Try.func49, Try.ntmps49
  go_wp2_with (go_at_call 21; (with_reducible refine (C3.out).mono ?_); rintro e w3 ⟨rfl, hd_, hb_, hf_⟩)
  go_end0
  exact ⟨rfl, hd_, hb_, hf_⟩
end
theorem ck_steps (w : World) (N M : Nat) (v : Int) (a : Option Addr) (len cap : Nat) (hn : StA w N M v) :
    Calls Try.prog 34 #[.pointer (some ⟨N, 0, none⟩), .slice a len cap] w fun e w' => ∃ bs bb g, e = .returned (.slice (some ⟨g, 0, none⟩) 4 4) ∧ Blk w' bs [.pointer (some ⟨N, 0, none⟩)] 28 ∧ Blk w' bb [.slice a len cap] 29 ∧ Blk w' g [.func (.func 48) #[] #[.pointer (some ⟨bs, 0, none⟩), .pointer (some ⟨bb, 0, none⟩)], .func (.func 22) #[.pointer (some ⟨M, 0, none⟩)] #[], .func (.func 49) #[] #[.pointer (some ⟨bs, 0, none⟩)], .func (.func 22) #[.pointer (some ⟨M, 0, none⟩)] #[]] 1 ∧ w.heap.size ≤ bs ∧ w.heap.size ≤ bb ∧ w.heap.size ≤ g ∧ Below w.heap.size w w' := by
  have k1 := belAlloc (Below.refl w.heap.size w) (.cells #[.pointer (some ⟨N, 0, none⟩)] 28)
  have HS := Lib.hid (Blk.new w [.pointer (some ⟨N, 0, none⟩)] 28)
  have HN1 := Lib.hid (hn.later k1)
  clear hn
  go_enter Try.func34, Try.ntmps34
  go_upto_region 3 with fail
  have hz1 : (w.alloc (.cells #[.pointer (some ⟨N, 0, none⟩)] 28)).heap.size = w.heap.size + 1 := by simp
  generalize w.alloc (.cells #[.pointer (some ⟨N, 0, none⟩)] 28) = w1 at *
  have k2 := belAlloc (Below.refl w1.heap.size w1) (.cells #[.slice a len cap] 29)
  have HB := Lib.hid (Blk.new w1 [.slice a len cap] 29)
  have HS2 := Lib.hid (HS.out.later k2)
  have HN2 := Lib.hid (Blk.later HN1.out k2)
  clear HS HN1
  have hs1 : w.heap.size ≤ w1.heap.size := k1.size
  have hbel := belStep k1 k2
  clear k1 k2
  generalize hw2 : w1.alloc (.cells #[.slice a len cap] 29) = w2 at *
  clear hw2
  have kd : Below w2.heap.size w2 w2.drew := belDrew (Below.refl w2.heap.size w2)
  have n0 := Blk.cell HN2.out (j := 0) rfl
  have s0 := HS2.out.cell (j := 0) rfl
  have hsz := hbel.size
  rw [hz1] at HB
  have kr := belDrew (belAlloc (Below.refl w2.heap.size w2) (.cells #[.func (.func 48) #[] #[.pointer (some ⟨w.heap.size, 0, none⟩), .pointer (some ⟨w.heap.size + 1, 0, none⟩)], .func (.func 22) #[.pointer (some ⟨M, 0, none⟩)] #[], .func (.func 49) #[] #[.pointer (some ⟨w.heap.size, 0, none⟩)], .func (.func 22) #[.pointer (some ⟨M, 0, none⟩)] #[]] 1))
  go_region
  all_goals go_wp2
  all_goals go_ret
  all_goals (exact ⟨_, _, _, rfl, HS2.out.later kr, HB.out.later kr, Blk.new w2 [_, _, _, _] 1, Nat.le_refl _, Nat.le_succ _, hsz, hbel.trans (kr.mono hsz)⟩)
end Go.Proofs.Ytcbblgeleboggaa
