
/- Stage 10: disk.Read, disk.Names: contracts. -/
import Derived.Test.YtcbblgeleboggaaDk6
import Derived.Test.YtcbblgeleboggaaShelfS
namespace Go.Proofs.Ytcbblgeleboggaa
open Go.RowKit Go.Sort Go.Maps Go.WideMaps Go.Shelf
set_option linter.unusedVariables false
set_option linter.unusedSimpArgs false
def rdE (o : Option (List Int)) : Int := if o.isSome then 0 else 4
theorem names_perm {w : World} {mb n : Nat} {D : DataW Value} {X : List Nat} {L : List FileM} (hm : w.ownsMap Try.prog 9 RH mb n D) (hl : Link X w D L) (hs : SortedF L) : (L.map (fun f => f.name.toList)).Perm (strKeys D) := by
  refine Collected.perm (left := fun _ => false) ⟨?_, fun x => ?_⟩ hm strs_keyedD Try.underlying9 (fun _ => rfl)
  · unfold List.Nodup
    rw [List.pairwise_map]
    exact hs.imp (fun h e => by rw [e] at h; exact List.lt_irrefl _ h)
  · have h1 := (hl.2 ⟨x.toArray⟩).1
    have h2 : Maps.has D (.string x) = (getF L ⟨x.toArray⟩).isSome := h1
    rw [h2]
    have ht : (⟨x.toArray⟩ : ByteArray).toList = x := by simp
    constructor
    · intro hx
      obtain ⟨f, hf, rfl⟩ := List.mem_map.1 hx
      have h3 := (getF_mem hs).1 hf
      have h4 : (⟨f.name.toList.toArray⟩ : ByteArray) = f.name := ba_ext (by simp)
      rw [h4, h3]; exact ⟨rfl, rfl⟩
    · rintro ⟨hx, _⟩
      obtain ⟨Z, hZ⟩ := Option.isSome_iff_exists.1 hx
      have h3 := (getF_mem hs (f := ⟨⟨x.toArray⟩, Z⟩)).2 hZ
      exact List.mem_map.2 ⟨_, h3, ht⟩
theorem names_sorted {L : List FileM} (hs : SortedF L) {ss : List (List UInt8)} {D : DataW Value} (h : ss.Perm (strKeys D)) (hp : (L.map (fun f => f.name.toList)).Perm (strKeys D)) : (ss.mergeSort (fun x y => decide (x ≤ y))).map encStr = L.map (fun f => .string f.name) ∧ ss.length = L.length := by
  have e1 : ss.mergeSort leB = L.map (fun f => f.name.toList) := by
    rw [mergeSort_of_perm (h.trans hp.symm)]
    refine List.mergeSort_of_pairwise ?_
    rw [List.pairwise_map]
    exact hs.imp (fun q => by simp only [leB, decide_eq_true_eq]; exact List.le_of_lt q)
  refine ⟨?_, by have := (h.trans hp.symm).length_eq; rw [this, List.length_map]⟩
  rw [show (fun x y : List UInt8 => decide (x ≤ y)) = leB from rfl, e1, List.map_map]
  refine List.map_congr_left (fun f _ => ?_)
  show Value.string ⟨f.name.toList.toArray⟩ = _
  rw [show (⟨f.name.toList.toArray⟩ : ByteArray) = f.name from ba_ext (by simp)]
theorem dk_Keys (mb : Option Nat) (W : World) : Calls Try.prog 32 #[.map mb] W fun e w' => e = .returned (.func (.func 44) #[] #[.pointer (some ⟨W.heap.size, 0, none⟩)]) ∧ w' = W.alloc (.cells #[.map mb] 58) :=
  (callsIn_wide (n := 5)).1 (AnyZ.keys_in Try.mapsKeys Fence.wide 5 trivial rfl mb W)
theorem dk_Sorts (m : Nat) : AnyZ.SortsIn Try.prog Try.mapsSorted_ren Fence.wide m :=
  ⟨fun blk off cap ss W hH hblk hsz => callsIn_wide.2 (Try.slices_Sort_string blk off cap ss W hH hblk hsz),
   fun p cap W => callsIn_wide.2 (Try.slices_Sort_string_none p cap W)⟩
set_option maxHeartbeats 1000000 in
theorem dk_Sorted (b nn : Nat) (D0 : DataW Value) (w : World) (hown : w.ownsMap Try.prog 9 RH b nn D0) (hmax : Maps.size D0 ≤ maxLen) (hbytes : Maps.size D0 * 16 ≤ 140737488355328) :
    Calls Try.prog 31 #[.func (.func 44) #[] #[.pointer (some ⟨w.heap.size, 0, none⟩)]] (w.alloc (.cells #[.map (some b)] 58)) fun e w' => ∃ (v : Value) (ss : List (List UInt8)), e = .returned v ∧ ss.Perm (strKeys D0) ∧
      w'.ownsRow (w.alloc (.cells #[.map (some b)] 58)).heap.size 9 1 v ss.length ((ss.mergeSort (fun x y => decide (x ≤ y))).map encStr) ∧ (v = .slice none 0 0 ↔ ss = []) ∧ Below (w.alloc (.cells #[.map (some b)] 58)).heap.size (w.alloc (.cells #[.map (some b)] 58)) w' := by
  have hbl := hown.lt
  have hseq : SeqGives Fence.wide 2 Try.prog 44 #[.pointer (some ⟨w.heap.size, 0, none⟩)] encStr (fun ss => ss.Perm (strKeys D0)) (Maps.size D0) (w.alloc (.cells #[.map (some b)] 58)) :=
    AnyZ.keys_gives (ρ := Try.mapsKeys_ren) { Try.mapsKeys with } Fence.wide _ trivial rfl (by omega) w.heap.size b nn D0 _ (by simp) (by simp) (by
      obtain ⟨es, clock, hb, Ft, hs, hD⟩ := hown
      exact ⟨es, clock, (Below.heap_alloc _ _ b hbl).trans hb, Ft, hs, hD⟩)
  exact (callsIn_wide (n := 5)).1 (AnyZ.sorted_in Try.mapsSorted Fence.wide 5 trivial trivial trivial trivial rfl (by omega) (dk_Sorts _) (enters_of Try.func43 (by kernel_rfl) rfl) 44 #[.pointer (some ⟨w.heap.size, 0, none⟩)] trivial (enters_of Try.func44 (by kernel_rfl) rfl) _ _ hmax hbytes _ hseq)
set_option maxRecDepth 100000 in
set_option maxHeartbeats 16000000 in
theorem dk_Names (M : Nat) (X F : List Nat) (d : DiskV) (w : World) (h : DAt w M X F d) (hc : d.cap + d.done.length ≤ 100000) (hs : SortedF d.files) :
    Calls Try.prog 18 #[.pointer (some ⟨M, 0, none⟩)] w fun e w' => ∃ v, e = .returned v ∧ OwnR w' w.heap.size 9 1 v d.look.length (d.look.map (fun f => .string f.name)) ∧ Below w.heap.size w w' := by
  have CL := Lib.hid (dk_look M X F d w h hc)
  have HS := Lib.hid (sorted_look hs)
  clear h
  go_enter Try.func18, Try.ntmps18
  go_upto_region 1 with fail
  go_wp2_with (first | (go_at_call 27; (with_reducible refine (CL.out).mono ?_); rintro e w1 ⟨mb, n, D, rfl, hn_, ho_, hl_, hg_, hb_⟩; have HN := Lib.hid hn_; have HO := Lib.hid ho_; have HL := Lib.hid hl_; have HB := Lib.hid hb_; clear hn_ ho_ hl_ hg_ hb_) | (go_at_call 32; (with_reducible refine (dk_Keys _ _).mono ?_); rintro e w2 ⟨rfl, rfl⟩) | (go_at_call 31; go_loud ((with_reducible refine (dk_Sorted mb n D w1 HO.out (by have h1 := HO.out.size_le; have h2 := HN.out; unfold maxLen; omega) (by have h1 := HO.out.size_le; have h2 := HN.out; omega)).mono ?_)); rintro e w3 ⟨v, ss, rfl, hp_, hrow_, _, hb_⟩; have HP := Lib.hid hp_; have HR := Lib.hid hrow_; have HB3 := Lib.hid hb_; clear hp_ hrow_ hb_))
  go_ret
  have hq := names_sorted HS.out HP.out (names_perm HO.out HL.out HS.out)
  have hrow : OwnR w3 _ 9 1 v ss.length ((ss.mergeSort (fun x y => decide (x ≤ y))).map encStr) := HR.out
  rw [hq.1, hq.2] at hrow
  have kb := belAlloc (Below.refl w1.heap.size w1) (.cells #[.map (some mb)] 58)
  exact ⟨v, rfl, hrow.mono (by have h1 := HB.out.size; simp only [World.alloc]; simp; omega), belStep (belStep HB.out kb) HB3.out⟩
set_option maxRecDepth 100000 in
set_option maxHeartbeats 8000000 in
theorem dk_Read (M : Nat) (X F : List Nat) (d : DiskV) (w : World) (h : DAt w M X F d) (hc : d.cap + d.done.length ≤ 100000) (s : ByteArray) (hs : s.size ≤ maxLen) :
    Calls Try.prog 14 #[.pointer (some ⟨M, 0, none⟩), .string s] w fun e w' => ∃ v, e = .returned (.tuple #[v, .int .i64 (rdE (getF d.look s))]) ∧ OwnI w' w.heap.size 5 .u8 v ((getF d.look s).getD []) ∧ ((getF d.look s).getD []).length ≤ 1000000 ∧ (∀ n ∈ (getF d.look s).getD [], (Lit.int .u8 n).wf = true) ∧ Below w.heap.size w w' := by
  have CL := Lib.hid (dk_look M X F d w h hc)
  have HKN := Lib.hid (show keyOf Try.prog 9 (.string s) = some (keyD s) from keyOf_string_mk Try.underlying9 hs)
  clear h
  go_enter Try.func14, Try.ntmps14
  go_upto_region 1 with fail
  cases hg : getF d.look s with
  | none =>
    have HG := Lib.hid hg
    go_upto_region 2 with (first | (go_at_call 27; (with_reducible refine (CL.out).mono ?_); rintro e w1 ⟨mb, n, D, rfl, hn_, ho_, hl_, hg_, hb_⟩; have HO := Lib.hid ho_; have HL := Lib.hid hl_; have HB := Lib.hid hb_; have HH := Lib.hid (show Maps.has D (keyD s) = false by have z := (hl_.2 s).1; rw [HG.out] at z; exact z); clear hn_ ho_ hl_ hg_ hb_) | (at_lookup; refine wpList_lookup_none rfl _ _ 58 rfl 9 29 strs_keyedD Try.underlying58 (zero_slD _) mb n D rfl HO.out _ _ rfl HKN.out HH.out ?_))
    go_wp2
    go_ret2
    rw [HG.out]
    exact ⟨_, rfl, OwnI.nil _ _ _ _, Nat.zero_le _, (fun n hn => by cases hn), HB.out⟩
  | some Z =>
    have HG := Lib.hid hg
    go_upto_region 2 with (first | (go_at_call 27; (with_reducible refine (CL.out).mono ?_); rintro e w1 ⟨mb, n, D, rfl, hn_, ho_, hl_, hg_, hb_⟩; have HO := Lib.hid ho_; have HB := Lib.hid hb_; have HH := Lib.hid (show Maps.has D (keyD s) = true by have z := (hl_.2 s).1; rw [HG.out] at z; exact z); obtain ⟨fa, fc, hat_, hbz_⟩ := (hl_.2 s).2 Z HG.out; have HAT := Lib.hid hat_; have HBZ := Lib.hid hbz_; clear hn_ ho_ hl_ hg_ hb_ hat_ hbz_) | (at_lookup; refine wpList_lookup_held rfl _ _ 58 rfl 9 29 strs_keyedD Try.underlying58 (zero_slD _) mb n D rfl HO.out _ _ rfl HKN.out _ HAT.out true HH.out ?_))
    have hle := HBZ.out.2.2
    have CC := Lib.hid (dk_Clone fa Z.length fc Z w1 HBZ.out.1 hle)
    go_wp2_with (go_at_call 28; (with_reducible refine (CC.out).mono ?_); rintro e w2 ⟨v, rfl, ho_, hb_⟩; have HOv := Lib.hid ho_; have HB2 := Lib.hid hb_; clear ho_ hb_)
    go_ret2
    rw [HG.out]
    exact ⟨v, rfl, HOv.out.mono HB.out.size, hle, HBZ.out.1.2, belStep HB.out HB2.out⟩
end Go.Proofs.Ytcbblgeleboggaa
