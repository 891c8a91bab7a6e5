
/- The reference: Put, Total, Ahead, Order. -/
import Derived.Test.YtampkolkbjmmkaaImRf2
namespace Go.Proofs.Ytampkolkbjmmkaa
open Go.RowKit Go.Sort
set_option linter.unusedVariables false
set_option linter.unusedSimpArgs false
theorem Blk.grown {w w' : World} {M : Nat} {C : List Value} {T : TypeId} {v : Value} (h : Blk w M C T) (hg : w.grownBy w' v.ownBlock) (hne : v.ownBlock ≠ some M) : Blk w' M C T := by
  have hl := h.lt
  unfold Blk at *
  rw [hg.block M hl (fun e => hne e.symm)]; exact h
theorem takeG_all {α : Type} {L : List α} {k : Nat} (h : L.length ≤ k) : L.take k = L := List.take_of_length_le h
def oG {α : Type} (l : List α) (x : α) (p k : Nat) : List α := if p < k then l.take p ++ x :: (l.take k).drop p else l.take k
theorem oG_len {α : Type} (l : List α) (x : α) (p k : Nat) : (oG l x p k).length ≤ l.length + 1 := by
  unfold oG
  split <;> simp <;> omega
theorem oG_done {α : Type} {l : List α} {x y : α} {p k : Nat} (h : p < k) (hy : l[k]? = some y) : oG l x p (k + 1) = oG l x p k ++ [y] := by
  have hk : k < l.length := (List.getElem?_eq_some_iff.1 hy).1
  unfold oG
  rw [if_pos h, if_pos (by omega), takeG_next hy, List.drop_append_of_le_length (by rw [List.length_take]; omega)]
  simp
theorem oG_not {α : Type} {l : List α} {x y : α} {p k : Nat} (h : k < p) (hy : l[k]? = some y) : oG l x p (k + 1) = oG l x p k ++ [y] := by
  unfold oG; rw [if_neg (by omega), if_neg (by omega)]; exact takeG_next hy
theorem oG_here {α : Type} {l : List α} {x y : α} {p : Nat} (hy : l[p]? = some y) : oG l x p (p + 1) = (oG l x p p ++ [x]) ++ [y] := by
  have hk : p < l.length := (List.getElem?_eq_some_iff.1 hy).1
  unfold oG
  rw [if_pos (by omega), if_neg (Nat.lt_irrefl _), takeG_next hy, List.drop_left' (by rw [List.length_take]; omega)]
  simp
theorem oG_end {α : Type} {l : List α} {x : α} {p : Nat} (h : p < l.length) : oG l x p l.length = l.take p ++ x :: l.drop p := by
  unfold oG; rw [if_pos h, List.take_length]
theorem oG_full {α : Type} {l : List α} {x : α} {p : Nat} (h : p = l.length) : oG l x p l.length ++ [x] = l.take p ++ x :: l.drop p := by
  unfold oG; rw [if_neg (by omega), h, List.take_length, List.drop_length]
theorem parts_less {L : List ImgV} (hri : Rises L) {s : ByteArray} {k : Nat} {x : ImgV} (hx : L[k]? = some x) : Op.bytesLess x.name.toList s.toList = decide (k < placeF L s) := by
  have hp := parts_of hri s
  rw [bytesLess_iff]
  by_cases h : k < placeF L s
  · rw [decide_eq_true h, decide_eq_true (hp.lo k x h hx)]
  · rw [decide_eq_false h, decide_eq_false (hp.hi k x (by omega) hx)]
theorem there_not {L : List ImgV} {s : ByteArray} (h : thereB L s = false) {k : Nat} {x : ImgV} (hx : L[k]? = some x) : (x.name.toList == s.toList) = false := by
  have := List.any_eq_false.1 (show (L.any fun x => x.name.toList == s.toList) = false from h) x (List.mem_of_getElem? hx)
  simpa using this
theorem sel_step {N : List ImgV} {b : Nat} {x : ImgV} (hr : Rises N) (hx : N[b]? = some x) (hm : ∀ y ∈ N, ltOf cfI y x = false) : sortBy (ltOf cfI) N = x :: sortBy (ltOf cfI) (dropI N x.name) := by
  have hb := (List.getElem?_eq_some_iff.1 hx).1
  have hd := drop_there hr hx rfl
  have e : N = N.take b ++ x :: N.drop (b + 1) := by
    rw [← (List.getElem?_eq_some_iff.1 hx).2, ← List.drop_eq_getElem_cons hb, List.take_append_drop]
  have hperm : (x :: dropI N x.name).Perm N := by
    rw [hd]
    conv => rhs; rw [e]
    exact List.perm_middle.symm
  refine (sortBy_unique swo_cfI (tied_cfI N) (((sortBy_perm (ltOf cfI) (dropI N x.name)).cons x).trans hperm) ?_).symm
  refine List.pairwise_cons.2 ⟨fun y hy => ?_, (sortBy_pw swo_cfI _).imp (fun h => by simpa using h)⟩
  exact hm y (hperm.mem_iff.1 (List.mem_cons_of_mem _ (sortBy_mem.1 hy)))
theorem drop_len {N : List ImgV} {b : Nat} {x : ImgV} (hr : Rises N) (hx : N[b]? = some x) : (dropI N x.name).length + 1 = N.length := by
  have hb := (List.getElem?_eq_some_iff.1 hx).1
  rw [drop_there hr hx rfl]; simp; omega
theorem filt_rises {L : List ImgV} (h : Rises L) (f : ImgV → Bool) : Rises (L.filter f) := List.Pairwise.sublist List.filter_sublist h
def lenV : Value → Nat
  | .slice _ n _ => n
  | _ => 0
theorem ah_1 {x y : ImgV} (h : ¬ x.last = y.last) : ltOf cfI x y = decide (x.last < y.last) := by
  unfold ltOf
  rw [cfI_eq]
  have h1 : cI x.last y.last ≠ 0 := fun e => h (cI_zero.1 e)
  show decide (orZ (cI x.last y.last) (orZ (cI y.size x.size) (cS x.name y.name)) < 0) = _
  rw [orZ_ne _ h1]
  exact decide_eq_decide.2 cI_neg
theorem ah_2 {x y : ImgV} (h : x.last = y.last) (h2 : ¬ x.size = y.size) : ltOf cfI x y = decide (y.size < x.size) := by
  unfold ltOf
  rw [cfI_eq]
  have h1 : cI x.last y.last = 0 := cI_zero.2 h
  have h3 : cI y.size x.size ≠ 0 := fun e => h2 (cI_zero.1 e).symm
  show decide (orZ (cI x.last y.last) (orZ (cI y.size x.size) (cS x.name y.name)) < 0) = _
  rw [h1, orZ_zero, orZ_ne _ h3]
  exact decide_eq_decide.2 cI_neg
theorem ah_3 {x y : ImgV} (h : x.last = y.last) (h2 : x.size = y.size) : ltOf cfI x y = Op.bytesLess x.name.toList y.name.toList := by
  unfold ltOf
  rw [cfI_eq]
  have h1 : cI x.last y.last = 0 := cI_zero.2 h
  have h3 : cI y.size x.size = 0 := cI_zero.2 h2.symm
  show decide (orZ (cI x.last y.last) (orZ (cI y.size x.size) (cS x.name y.name)) < 0) = _
  rw [h1, orZ_zero, h3, orZ_zero, bytesLess_iff]
  exact decide_eq_decide.2 cS_neg
set_option maxRecDepth 100000 in
set_option maxHeartbeats 16000000 in
theorem iref_Put (a : Option Addr) (len cap : Nat) (L : List ImgV) (s : ByteArray) (size round : Int) (w : World) (hl : L.length = len) (hR : Row w a len cap 3 (L.flatMap ImgV.cells)) (hri : Rises L) (hn : len ≤ 100000) :
    Calls Try.prog 106 #[.slice a len cap, .string s, .int .i64 size, .int .i64 round] w fun e w' => ∃ v, e = .returned v ∧ OwnR w' w.heap.size 46 3 v (putI L s size round).length ((putI L s size round).flatMap ImgV.cells) ∧ Below w.heap.size w w' := by
  have hw : Below w.heap.size w w := Below.refl _ _
  have hbd_a : len ≤ cap ∧ cap ≤ 9223372036854775807 := by obtain ⟨_, h1, h2, _⟩ := hR; unfold maxLen at h2; exact ⟨h1, h2⟩
  obtain ⟨hbd1_a, hbd2_a⟩ := hbd_a
  have HR := Lib.hid hR
  have HRI := Lib.hid hri
  clear hR hri
  subst hl
  obtain ⟨th, hth⟩ : ∃ t, thereB L s = t := ⟨_, rfl⟩
  obtain ⟨p, hp⟩ : ∃ q, placeF L s = q := ⟨_, rfl⟩
  have hple : p ≤ L.length := by rw [← hp]; exact place_le _ _
  have HLESS := Lib.hid (fun (k : Nat) (x : ImgV) (hx : L[k]? = some x) => hp ▸ parts_less HRI.out (s := s) hx)
  have HTH := Lib.hid hth
  have HPL := Lib.hid hp
  clear hth hp
  go_enter Try.func106, Try.ntmps106
  cases th with
  | false =>
    have HRES := Lib.hid (show putI L s size round = L.take p ++ (⟨s, size, round⟩ : ImgV) :: L.drop p from by rw [put_no HTH.out, HPL.out])
    go_wp2
    go_loopw [9, 10, 11] (fun v dn i wr => ∃ k : Nat, k ≤ L.length ∧ i = .int .i64 k ∧ dn = .bool (decide (p < k)) ∧ OwnR wr w.heap.size 46 3 v (oG L (⟨s, size, round⟩ : ImgV) p k).length ((oG L (⟨s, size, round⟩ : ImgV) p k).flatMap ImgV.cells) ∧ Below w.heap.size w wr) (fun _ _ i _ => L.length - (intOf i).toNat)
    case atStart => exact ⟨0, Nat.zero_le _, rfl, by rw [show decide (p < 0) = false from decide_eq_false (by omega)], OwnR.nil _ _ _ _, hw⟩
    case round =>
      clear hw
      obtain ⟨k, hk, rfl, rfl, hO, hbr⟩ := hrel
      by_cases hlt : k < L.length
      · have hd : decide ((k : Int) < (L.length : Int)) = true := decide_eq_true (by omega)
        have hki : (k : Int) < (L.length : Int) := by omega
        have hk0 : (0 : Int) ≤ (k : Int) := by omega
        obtain ⟨x, hx⟩ : ∃ x, L[k]? = some x := ⟨L[k], List.getElem?_eq_getElem hlt⟩
        obtain ⟨bc, oc, ec, _, hcc⟩ := (HR.out.later hbr).elem ImgV.cells_len (by omega) hx
        subst ec
        have c0 := keep (hcc 0 _ rfl)
        have c1 := keep (hcc 1 _ rfl)
        have c2 := keep (hcc 2 _ rfl)
        rw [Nat.add_zero] at c0
        have hless := HLESS.out k x hx
        have HX := Lib.hid hx
        clear hx hcc
        have HBR := Lib.hid hbr
        clear hbr
        have hbel : Below wr.heap.size wr wr := Below.refl _ _
        go_upto_region 7 with fail
        have k1 : Below wr.heap.size wr (wr.alloc (.cells #[.string x.name, .int .i64 x.size, .int .i64 x.last] 46)) := belAlloc (Below.refl _ _) _
        have HXB := Lib.hid (show Blk (wr.alloc (.cells #[.string x.name, .int .i64 x.size, .int .i64 x.last] 46)) wr.heap.size [.string x.name, .int .i64 x.size, .int .i64 x.last] 46 from Blk.new wr [.string x.name, .int .i64 x.size, .int .i64 x.last] 46)
        have HO := Lib.hid (OwnR.alloc hO (.cells #[.string x.name, .int .i64 x.size, .int .i64 x.last] 46))
        have hnx := own_ne_new hO (Nat.le_refl _)
        have HB5 := Lib.hid (belStep HBR.out k1)
        clear hO hbel k1 c0 c1 c2
        have hx1 : wr.heap.size < (wr.alloc (.cells #[.string x.name, .int .i64 x.size, .int .i64 x.last] 46)).heap.size := HXB.out.lt
        have hsr := HBR.out.size
        generalize wr.alloc (.cells #[.string x.name, .int .i64 x.size, .int .i64 x.last] 46) = W5 at *
        have hbel : Below W5.heap.size W5 W5 := Below.refl _ _
        have xx0 := keep (HXB.out.cell (j := 0) rfl)
        have xx1 := keep (HXB.out.cell (j := 1) rfl)
        have xx2 := keep (HXB.out.cell (j := 2) rfl)
        obtain ⟨N, hN⟩ : ∃ N, oG L (⟨s, size, round⟩ : ImgV) p k = N := ⟨_, rfl⟩
        rw [hN] at HO
        have HNN := Lib.hid hN
        have HNL := Lib.hid (show N.length ≤ L.length + 1 by rw [← HNN.out]; exact oG_len _ _ _ _)
        have key : p < k ∨ k < p ∨ k = p := by omega
        rcases key with h9 | h9 | h9
        · have hdn : decide (p < k) = true := decide_eq_true h9
          have hdk : decide (p < k + 1) = true := decide_eq_true (by omega)
          rw [show decide (k < p) = false from decide_eq_false (by omega)] at hless
          have HN := Lib.hid (oG_done (x := (⟨s, size, round⟩ : ImgV)) h9 HX.out)
          rw [HNN.out] at HN
          rw [hdn]
          clear hdn hN HNN
          have hNl := HNL.out
          have HOA := Lib.hid (OwnR.alloc HO.out (.cells #[.string x.name, .int .i64 x.size, .int .i64 x.last] 46))
          have HXA := Lib.hid (row_new W5 [.string x.name, .int .i64 x.size, .int .i64 x.last] 46 1 3 rfl (by unfold maxLen; omega))
          clear HO
          go_wp2_with (at_builtin; go_loud (refine wpList_app_row rfl _ _ 39 rfl w.heap.size 46 _ 3 32 Try.underlying39 info_imgI rfl (by decide) _ _ _ rfl HOA.out _ 1 1 [.string x.name, .int .i64 x.size, .int .i64 x.last] rfl HXA.out (img_one x) ?c1 ?c2 ?c3 ?_))
          case c1 => simp only [maxLen]; omega
          case c2 => omega
          case c3 => have := HB5.out.size; simp; omega
          intro v' w6 ho' hb' _
          have HO2 := Lib.hid (own_snocG (enc := ImgV.cells) (x := x) ho')
          have HB2 := Lib.hid (((belAlloc HB5.out (.cells #[.string x.name, .int .i64 x.size, .int .i64 x.last] 46)).trans hb'))
          clear ho' hb'
          go_wp2
          go_roundw
          case rel => exact ⟨k + 1, by omega, by push_cast; rfl, by rw [hdk], by rw [HN.out]; exact HO2.out, HB2.out⟩
          case measure => simp [intOf] <;> omega
        · have hdn : decide (p < k) = false := decide_eq_false (by omega)
          have hdk : decide (p < k + 1) = false := decide_eq_false (by omega)
          rw [show decide (k < p) = true from decide_eq_true h9] at hless
          have HN := Lib.hid (oG_not (x := (⟨s, size, round⟩ : ImgV)) h9 HX.out)
          rw [HNN.out] at HN
          rw [hdn]
          clear hdn hN HNN
          have hNl := HNL.out
          have HOA := Lib.hid (OwnR.alloc HO.out (.cells #[.string x.name, .int .i64 x.size, .int .i64 x.last] 46))
          have HXA := Lib.hid (row_new W5 [.string x.name, .int .i64 x.size, .int .i64 x.last] 46 1 3 rfl (by unfold maxLen; omega))
          clear HO
          go_wp2_with (at_builtin; go_loud (refine wpList_app_row rfl _ _ 39 rfl w.heap.size 46 _ 3 32 Try.underlying39 info_imgI rfl (by decide) _ _ _ rfl HOA.out _ 1 1 [.string x.name, .int .i64 x.size, .int .i64 x.last] rfl HXA.out (img_one x) ?c1 ?c2 ?c3 ?_))
          case c1 => simp only [maxLen]; omega
          case c2 => omega
          case c3 => have := HB5.out.size; simp; omega
          intro v' w6 ho' hb' _
          have HO2 := Lib.hid (own_snocG (enc := ImgV.cells) (x := x) ho')
          have HB2 := Lib.hid (((belAlloc HB5.out (.cells #[.string x.name, .int .i64 x.size, .int .i64 x.last] 46)).trans hb'))
          clear ho' hb'
          go_wp2
          go_roundw
          case rel => exact ⟨k + 1, by omega, by push_cast; rfl, by rw [hdk], by rw [HN.out]; exact HO2.out, HB2.out⟩
          case measure => simp [intOf] <;> omega
        · subst h9
          have heq := there_not HTH.out HX.out
          have hdn : decide (k < k) = false := decide_eq_false (by omega)
          have hdk : decide (k < k + 1) = true := decide_eq_true (by omega)
          rw [show decide (k < k) = false from hdn] at hless
          have HN := Lib.hid (oG_here (x := (⟨s, size, round⟩ : ImgV)) HX.out)
          rw [HNN.out] at HN
          rw [hdn]
          clear hdn hN HNN
          have hNl := HNL.out
          have HON := Lib.hid (OwnR.alloc HO.out (.cells #[.string s, .int .i64 size, .int .i64 round] 46))
          have HXN := Lib.hid (row_new W5 [.string s, .int .i64 size, .int .i64 round] 46 1 3 rfl (by unfold maxLen; omega))
          have HXK := Lib.hid (show Blk (W5.alloc (.cells #[.string s, .int .i64 size, .int .i64 round] 46)) wr.heap.size [.string x.name, .int .i64 x.size, .int .i64 x.last] 46 from HXB.out.later (belAlloc (Below.refl W5.heap.size W5) (.cells #[.string s, .int .i64 size, .int .i64 round] 46)))
          have hnx2 := hnx
          clear HO
          go_upto_region 12 with (at_builtin; go_loud (refine wpList_app_row rfl _ _ 39 rfl w.heap.size 46 _ 3 32 Try.underlying39 info_imgI rfl (by decide) _ _ _ rfl HON.out _ 1 1 [.string s, .int .i64 size, .int .i64 round] rfl HXN.out (img_one (⟨s, size, round⟩ : ImgV)) ?c1 ?c2 ?c3 ?_))
          case c1 => simp only [maxLen]; omega
          case c2 => omega
          case c3 => have := HB5.out.size; simp; omega
          intro v' w6 ho' hb' hg'
          have HO2 := Lib.hid (own_snocG (enc := ImgV.cells) (x := (⟨s, size, round⟩ : ImgV)) ho')
          have HB2 := Lib.hid ((belAlloc HB5.out (.cells #[.string s, .int .i64 size, .int .i64 round] 46)).trans hb')
          have HX6 := Lib.hid (HXK.out.grown hg' hnx2)
          clear ho' hb' hg' hbel xx0 xx1 xx2
          have hbel : Below w6.heap.size w6 w6 := Below.refl _ _
          have xx0 := keep (HX6.out.cell (j := 0) rfl)
          have xx1 := keep (HX6.out.cell (j := 1) rfl)
          have xx2 := keep (HX6.out.cell (j := 2) rfl)
          obtain ⟨N2, hN2⟩ : ∃ M, N ++ [(⟨s, size, round⟩ : ImgV)] = M := ⟨_, rfl⟩
          have hN2l : N2.length ≤ L.length + 2 := by rw [← hN2, List.length_append]; simp; omega
          rw [hN2] at HO2 HN
          clear hN2
          have HOX := Lib.hid (OwnR.alloc HO2.out (.cells #[.string x.name, .int .i64 x.size, .int .i64 x.last] 46))
          have HXX := Lib.hid (row_new w6 [.string x.name, .int .i64 x.size, .int .i64 x.last] 46 1 3 rfl (by unfold maxLen; omega))
          go_wp2_with (at_builtin; go_loud (refine wpList_app_row rfl _ _ 39 rfl w.heap.size 46 _ 3 32 Try.underlying39 info_imgI rfl (by decide) _ _ _ rfl HOX.out _ 1 1 [.string x.name, .int .i64 x.size, .int .i64 x.last] rfl HXX.out (img_one x) ?c1 ?c2 ?c3 ?_))
          case c1 => simp only [maxLen]; omega
          case c2 => omega
          case c3 => have := HB2.out.size; simp; omega
          intro v9 w9 ho9 hb9 _
          have HO9 := Lib.hid (own_snocG (enc := ImgV.cells) (x := x) ho9)
          have HB9 := Lib.hid ((belAlloc HB2.out (.cells #[.string x.name, .int .i64 x.size, .int .i64 x.last] 46)).trans hb9)
          clear ho9 hb9
          go_wp2
          go_roundw
          case rel => exact ⟨k + 1, by omega, by push_cast; rfl, by rw [hdk], by rw [HN.out]; exact HO9.out, HB9.out⟩
          case measure => simp [intOf] <;> omega
      · obtain rfl : k = L.length := by omega
        have hd : decide ((L.length : Int) < (L.length : Int)) = false := decide_eq_false (by omega)
        by_cases h9 : p < L.length
        · have hdn : decide (p < L.length) = true := decide_eq_true h9
          rw [hdn]
          rw [oG_end h9] at hO
          clear hdn
          go_wp2
          go_ret
          exact ⟨_, rfl, by rw [HRES.out]; exact hO, hbr⟩
        · have hdn : decide (p < L.length) = false := decide_eq_false h9
          rw [hdn]
          have HN := Lib.hid (oG_full (x := (⟨s, size, round⟩ : ImgV)) (show p = L.length by omega))
          have hNl := oG_len L (⟨s, size, round⟩ : ImgV) p L.length
          obtain ⟨N, hN⟩ : ∃ N, oG L (⟨s, size, round⟩ : ImgV) p L.length = N := ⟨_, rfl⟩
          rw [hN] at hO HN hNl
          clear hdn hN
          have HBR := Lib.hid hbr
          have HOE := Lib.hid (OwnR.alloc hO (.cells #[.string s, .int .i64 size, .int .i64 round] 46))
          have HXE := Lib.hid (row_new wr [.string s, .int .i64 size, .int .i64 round] 46 1 3 rfl (by unfold maxLen; omega))
          clear hO
          go_wp2_with (at_builtin; go_loud (refine wpList_app_row rfl _ _ 39 rfl w.heap.size 46 _ 3 32 Try.underlying39 info_imgI rfl (by decide) _ _ _ rfl HOE.out _ 1 1 [.string s, .int .i64 size, .int .i64 round] rfl HXE.out (img_one (⟨s, size, round⟩ : ImgV)) ?c1 ?c2 ?c3 ?_))
          case c1 => simp only [maxLen]; omega
          case c2 => omega
          case c3 => have := HBR.out.size; simp; omega
          intro v' w6 ho' hb' _
          have HO2 := Lib.hid (own_snocG (enc := ImgV.cells) (x := (⟨s, size, round⟩ : ImgV)) ho')
          have HB2 := Lib.hid ((belAlloc HBR.out (.cells #[.string s, .int .i64 size, .int .i64 round] 46)).trans hb')
          clear ho' hb'
          go_wp2
          go_ret
          exact ⟨_, rfl, by rw [HRES.out, ← HN.out]; exact HO2.out, HB2.out⟩
  | true =>
    obtain ⟨z, hz, he⟩ := there_at HRI.out HTH.out
    rw [HPL.out] at hz
    have HRES := Lib.hid (show putI L s size round = L.set p { z with last := round } from put_there HRI.out HTH.out hz he)
    have hpl : p < L.length := (List.getElem?_eq_some_iff.1 hz).1
    obtain ⟨M, hM⟩ : ∃ M, L.set p { z with last := round } = M := ⟨_, rfl⟩
    have HML := Lib.hid (show M.length = L.length by rw [← hM, List.length_set])
    have HMO := Lib.hid (fun (k : Nat) (x : ImgV) (hne : k ≠ p) (hx : L[k]? = some x) => show M[k]? = some x by rw [← hM, List.getElem?_set_ne (fun e => hne e.symm)]; exact hx)
    have HMP := Lib.hid (show M[p]? = some { z with last := round } by rw [← hM, List.getElem?_set_self hpl])
    rw [hM] at HRES
    have HZ := Lib.hid hz
    have HE := Lib.hid he
    clear hz he hM
    go_wp2
    go_loopw [9, 10, 11] (fun v dn i wr => ∃ k : Nat, k ≤ L.length ∧ i = .int .i64 k ∧ dn = .bool (decide (p < k)) ∧ OwnR wr w.heap.size 46 3 v (M.take k).length ((M.take k).flatMap ImgV.cells) ∧ Below w.heap.size w wr) (fun _ _ i _ => L.length - (intOf i).toNat)
    case atStart => exact ⟨0, Nat.zero_le _, rfl, rfl, OwnR.nil _ _ _ _, hw⟩
    case round =>
      clear hw
      obtain ⟨k, hk, rfl, rfl, hO, hbr⟩ := hrel
      by_cases hlt : k < L.length
      · have hd : decide ((k : Int) < (L.length : Int)) = true := decide_eq_true (by omega)
        have hki : (k : Int) < (L.length : Int) := by omega
        have hk0 : (0 : Int) ≤ (k : Int) := by omega
        obtain ⟨x, hx⟩ : ∃ x, L[k]? = some x := ⟨L[k], List.getElem?_eq_getElem hlt⟩
        obtain ⟨bc, oc, ec, _, hcc⟩ := (HR.out.later hbr).elem ImgV.cells_len (by omega) hx
        subst ec
        have c0 := keep (hcc 0 _ rfl)
        have c1 := keep (hcc 1 _ rfl)
        have c2 := keep (hcc 2 _ rfl)
        rw [Nat.add_zero] at c0
        have hless := HLESS.out k x hx
        have HX := Lib.hid hx
        clear hx hcc
        have HBR := Lib.hid hbr
        clear hbr
        have hbel : Below wr.heap.size wr wr := Below.refl _ _
        go_upto_region 7 with fail
        have k1 : Below wr.heap.size wr (wr.alloc (.cells #[.string x.name, .int .i64 x.size, .int .i64 x.last] 46)) := belAlloc (Below.refl _ _) _
        have HXB := Lib.hid (show Blk (wr.alloc (.cells #[.string x.name, .int .i64 x.size, .int .i64 x.last] 46)) wr.heap.size [.string x.name, .int .i64 x.size, .int .i64 x.last] 46 from Blk.new wr [.string x.name, .int .i64 x.size, .int .i64 x.last] 46)
        have HO := Lib.hid (OwnR.alloc hO (.cells #[.string x.name, .int .i64 x.size, .int .i64 x.last] 46))
        have hnx := own_ne_new hO (Nat.le_refl _)
        have HB5 := Lib.hid (belStep HBR.out k1)
        clear hO hbel k1 c0 c1 c2
        have hx1 : wr.heap.size < (wr.alloc (.cells #[.string x.name, .int .i64 x.size, .int .i64 x.last] 46)).heap.size := HXB.out.lt
        have hsr := HBR.out.size
        generalize wr.alloc (.cells #[.string x.name, .int .i64 x.size, .int .i64 x.last] 46) = W5 at *
        have hbel : Below W5.heap.size W5 W5 := Below.refl _ _
        have xx0 := keep (HXB.out.cell (j := 0) rfl)
        have xx1 := keep (HXB.out.cell (j := 1) rfl)
        have xx2 := keep (HXB.out.cell (j := 2) rfl)
        obtain ⟨N, hN⟩ : ∃ N, M.take k = N := ⟨_, rfl⟩
        rw [hN] at HO
        have HNN := Lib.hid hN
        have HNL := Lib.hid (show N.length ≤ L.length by rw [← HNN.out, List.length_take]; omega)
        have key : p < k ∨ k < p ∨ k = p := by omega
        rcases key with h9 | h9 | h9
        · have hdn : decide (p < k) = true := decide_eq_true h9
          have hdk : decide (p < k + 1) = true := decide_eq_true (by omega)
          rw [show decide (k < p) = false from decide_eq_false (by omega)] at hless
          have HN := Lib.hid (takeG_next (HMO.out k x (by omega) HX.out))
          rw [HNN.out] at HN
          rw [hdn]
          clear hdn hN HNN
          have hNl := HNL.out
          have HOA := Lib.hid (OwnR.alloc HO.out (.cells #[.string x.name, .int .i64 x.size, .int .i64 x.last] 46))
          have HXA := Lib.hid (row_new W5 [.string x.name, .int .i64 x.size, .int .i64 x.last] 46 1 3 rfl (by unfold maxLen; omega))
          clear HO
          go_wp2_with (at_builtin; go_loud (refine wpList_app_row rfl _ _ 39 rfl w.heap.size 46 _ 3 32 Try.underlying39 info_imgI rfl (by decide) _ _ _ rfl HOA.out _ 1 1 [.string x.name, .int .i64 x.size, .int .i64 x.last] rfl HXA.out (img_one x) ?c1 ?c2 ?c3 ?_))
          case c1 => simp only [maxLen]; omega
          case c2 => omega
          case c3 => have := HB5.out.size; simp; omega
          intro v' w6 ho' hb' _
          have HO2 := Lib.hid (own_snocG (enc := ImgV.cells) (x := x) ho')
          have HB2 := Lib.hid (((belAlloc HB5.out (.cells #[.string x.name, .int .i64 x.size, .int .i64 x.last] 46)).trans hb'))
          clear ho' hb'
          go_wp2
          go_roundw
          case rel => exact ⟨k + 1, by omega, by push_cast; rfl, by rw [hdk], by rw [HN.out]; exact HO2.out, HB2.out⟩
          case measure => simp [intOf] <;> omega
        · have hdn : decide (p < k) = false := decide_eq_false (by omega)
          have hdk : decide (p < k + 1) = false := decide_eq_false (by omega)
          rw [show decide (k < p) = true from decide_eq_true h9] at hless
          have HN := Lib.hid (takeG_next (HMO.out k x (by omega) HX.out))
          rw [HNN.out] at HN
          rw [hdn]
          clear hdn hN HNN
          have hNl := HNL.out
          have HOA := Lib.hid (OwnR.alloc HO.out (.cells #[.string x.name, .int .i64 x.size, .int .i64 x.last] 46))
          have HXA := Lib.hid (row_new W5 [.string x.name, .int .i64 x.size, .int .i64 x.last] 46 1 3 rfl (by unfold maxLen; omega))
          clear HO
          go_wp2_with (at_builtin; go_loud (refine wpList_app_row rfl _ _ 39 rfl w.heap.size 46 _ 3 32 Try.underlying39 info_imgI rfl (by decide) _ _ _ rfl HOA.out _ 1 1 [.string x.name, .int .i64 x.size, .int .i64 x.last] rfl HXA.out (img_one x) ?c1 ?c2 ?c3 ?_))
          case c1 => simp only [maxLen]; omega
          case c2 => omega
          case c3 => have := HB5.out.size; simp; omega
          intro v' w6 ho' hb' _
          have HO2 := Lib.hid (own_snocG (enc := ImgV.cells) (x := x) ho')
          have HB2 := Lib.hid (((belAlloc HB5.out (.cells #[.string x.name, .int .i64 x.size, .int .i64 x.last] 46)).trans hb'))
          clear ho' hb'
          go_wp2
          go_roundw
          case rel => exact ⟨k + 1, by omega, by push_cast; rfl, by rw [hdk], by rw [HN.out]; exact HO2.out, HB2.out⟩
          case measure => simp [intOf] <;> omega
        · subst h9
          obtain rfl : x = z := Option.some.inj (HX.out.symm.trans HZ.out)
          have heq : (x.name.toList == s.toList) = true := by rw [HE.out]; exact beq_self_eq_true _
          have hdn : decide (k < k) = false := decide_eq_false (by omega)
          have hdk : decide (k < k + 1) = true := decide_eq_true (by omega)
          rw [show decide (k < k) = false from hdn] at hless
          have HN := Lib.hid (takeG_next HMP.out)
          rw [HNN.out] at HN
          rw [hdn]
          clear hdn hN HNN
          have hNl := HNL.out
          have c2 := HXB.out.cell (j := 2) rfl
          have cf := HXB.out.frozen
          have hHX := Lib.hid (HXB.out.set 2 (.int .i64 round))
          have HO7 := Lib.hid (own_apart HO.out hnx 2 (.int .i64 round))
          have HB7 := Lib.hid (belSet HB5.out ⟨wr.heap.size, 2, none⟩ (.int .i64 round) hsr)
          clear HO
          go_upto_region 12 with fail
          clear c2 cf hbel xx0 xx1 xx2
          generalize W5.setCell ⟨wr.heap.size, 2, none⟩ (.int .i64 round) = W7 at *
          have hbel : Below W7.heap.size W7 W7 := Below.refl _ _
          have xx0 := keep (hHX.out.cell (j := 0) rfl)
          have xx1 := keep (hHX.out.cell (j := 1) rfl)
          have xx2 := keep (hHX.out.cell (j := 2) rfl)
          have HOB := Lib.hid (OwnR.alloc HO7.out (.cells #[.string x.name, .int .i64 x.size, .int .i64 round] 46))
          have HXB := Lib.hid (row_new W7 [.string x.name, .int .i64 x.size, .int .i64 round] 46 1 3 rfl (by unfold maxLen; omega))
          go_wp2_with (at_builtin; go_loud (refine wpList_app_row rfl _ _ 39 rfl w.heap.size 46 _ 3 32 Try.underlying39 info_imgI rfl (by decide) _ _ _ rfl HOB.out _ 1 1 [.string x.name, .int .i64 x.size, .int .i64 round] rfl HXB.out (img_one (⟨x.name, x.size, round⟩ : ImgV)) ?c1 ?c2 ?c3 ?_))
          case c1 => simp only [maxLen]; omega
          case c2 => omega
          case c3 => have := HB7.out.size; simp; omega
          intro v' w8 ho' hb' _
          have HO2 := Lib.hid (own_snocG (enc := ImgV.cells) (x := (⟨x.name, x.size, round⟩ : ImgV)) ho')
          have HB2 := Lib.hid (((belAlloc HB7.out (.cells #[.string x.name, .int .i64 x.size, .int .i64 round] 46)).trans hb'))
          clear ho' hb'
          go_wp2
          go_roundw
          case rel => exact ⟨k + 1, by omega, by push_cast; rfl, by rw [hdk], by rw [HN.out]; exact HO2.out, HB2.out⟩
          case measure => simp [intOf] <;> omega
      · obtain rfl : k = L.length := by omega
        have hd : decide ((L.length : Int) < (L.length : Int)) = false := decide_eq_false (by omega)
        have hdn : decide (p < L.length) = true := decide_eq_true hpl
        rw [hdn]
        have HO := Lib.hid (show OwnR wr w.heap.size 46 3 _ M.length (M.flatMap ImgV.cells) from by have h := hO; rwa [takeG_all (by rw [HML.out]; exact Nat.le_refl _)] at h)
        clear hO hdn
        go_wp2
        go_ret
        exact ⟨_, rfl, by rw [HRES.out]; exact HO.out, hbr⟩
set_option maxRecDepth 100000 in
set_option maxHeartbeats 16000000 in
theorem iref_Ahead (x y : ImgV) (w : World) :
    Calls Try.prog 99 #[.agg #[.string x.name, .int .i64 x.size, .int .i64 x.last], .agg #[.string y.name, .int .i64 y.size, .int .i64 y.last]] w fun e w' => e = .returned (.bool (ltOf cfI x y)) ∧ Below w.heap.size w w' := by
  have hw : Below w.heap.size w w := Below.refl _ _
  have hbel := hw
  go_enter Try.func99, Try.ntmps99
  go_upto_region 1 with fail
  have a0 : ((w.alloc (.cells #[.string x.name, .int .i64 x.size, .int .i64 x.last] 46)).alloc (.cells #[.string y.name, .int .i64 y.size, .int .i64 y.last] 46)).cell? ⟨w.heap.size, 0, none⟩ = some (.string x.name) := by first | (simp; done) | (rw [World.cell?_alloc_at _ _ _ _ (by simp)]; rfl) | (rw [World.cell?_alloc_past _ _ _ (by simp <;> omega), World.cell?_alloc_at _ _ _ _ (by simp)]; rfl) | (rw [World.cell?_alloc_past _ _ _ (by simp <;> omega), World.cell?_alloc_past _ _ _ (by simp <;> omega), World.cell?_alloc_at _ _ _ _ (by simp)]; rfl)
  have a1 : ((w.alloc (.cells #[.string x.name, .int .i64 x.size, .int .i64 x.last] 46)).alloc (.cells #[.string y.name, .int .i64 y.size, .int .i64 y.last] 46)).cell? ⟨w.heap.size, 1, none⟩ = some (.int .i64 x.size) := by first | (simp; done) | (rw [World.cell?_alloc_at _ _ _ _ (by simp)]; rfl) | (rw [World.cell?_alloc_past _ _ _ (by simp <;> omega), World.cell?_alloc_at _ _ _ _ (by simp)]; rfl) | (rw [World.cell?_alloc_past _ _ _ (by simp <;> omega), World.cell?_alloc_past _ _ _ (by simp <;> omega), World.cell?_alloc_at _ _ _ _ (by simp)]; rfl)
  have a2 : ((w.alloc (.cells #[.string x.name, .int .i64 x.size, .int .i64 x.last] 46)).alloc (.cells #[.string y.name, .int .i64 y.size, .int .i64 y.last] 46)).cell? ⟨w.heap.size, 2, none⟩ = some (.int .i64 x.last) := by first | (simp; done) | (rw [World.cell?_alloc_at _ _ _ _ (by simp)]; rfl) | (rw [World.cell?_alloc_past _ _ _ (by simp <;> omega), World.cell?_alloc_at _ _ _ _ (by simp)]; rfl) | (rw [World.cell?_alloc_past _ _ _ (by simp <;> omega), World.cell?_alloc_past _ _ _ (by simp <;> omega), World.cell?_alloc_at _ _ _ _ (by simp)]; rfl)
  have b0 : ((w.alloc (.cells #[.string x.name, .int .i64 x.size, .int .i64 x.last] 46)).alloc (.cells #[.string y.name, .int .i64 y.size, .int .i64 y.last] 46)).cell? ⟨w.heap.size + 1, 0, none⟩ = some (.string y.name) := by first | (simp; done) | (rw [World.cell?_alloc_at _ _ _ _ (by simp)]; rfl) | (rw [World.cell?_alloc_past _ _ _ (by simp <;> omega), World.cell?_alloc_at _ _ _ _ (by simp)]; rfl) | (rw [World.cell?_alloc_past _ _ _ (by simp <;> omega), World.cell?_alloc_past _ _ _ (by simp <;> omega), World.cell?_alloc_at _ _ _ _ (by simp)]; rfl)
  have b1 : ((w.alloc (.cells #[.string x.name, .int .i64 x.size, .int .i64 x.last] 46)).alloc (.cells #[.string y.name, .int .i64 y.size, .int .i64 y.last] 46)).cell? ⟨w.heap.size + 1, 1, none⟩ = some (.int .i64 y.size) := by first | (simp; done) | (rw [World.cell?_alloc_at _ _ _ _ (by simp)]; rfl) | (rw [World.cell?_alloc_past _ _ _ (by simp <;> omega), World.cell?_alloc_at _ _ _ _ (by simp)]; rfl) | (rw [World.cell?_alloc_past _ _ _ (by simp <;> omega), World.cell?_alloc_past _ _ _ (by simp <;> omega), World.cell?_alloc_at _ _ _ _ (by simp)]; rfl)
  have b2 : ((w.alloc (.cells #[.string x.name, .int .i64 x.size, .int .i64 x.last] 46)).alloc (.cells #[.string y.name, .int .i64 y.size, .int .i64 y.last] 46)).cell? ⟨w.heap.size + 1, 2, none⟩ = some (.int .i64 y.last) := by first | (simp; done) | (rw [World.cell?_alloc_at _ _ _ _ (by simp)]; rfl) | (rw [World.cell?_alloc_past _ _ _ (by simp <;> omega), World.cell?_alloc_at _ _ _ _ (by simp)]; rfl) | (rw [World.cell?_alloc_past _ _ _ (by simp <;> omega), World.cell?_alloc_past _ _ _ (by simp <;> omega), World.cell?_alloc_at _ _ _ _ (by simp)]; rfl)
  have hb2 := (by repeat (first | exact hbel | refine belAlloc ?_ _ | refine belDrew ?_ | refine belSet ?_ _ _ (by simp)) : Below w.heap.size w ((w.alloc (.cells #[.string x.name, .int .i64 x.size, .int .i64 x.last] 46)).alloc (.cells #[.string y.name, .int .i64 y.size, .int .i64 y.last] 46)))
  replace hw := belStep hw hb2
  clear hb2 hbel
  generalize (w.alloc (.cells #[.string x.name, .int .i64 x.size, .int .i64 x.last] 46)).alloc (.cells #[.string y.name, .int .i64 y.size, .int .i64 y.last] 46) = W1 at *
  replace a0 := keep a0
  replace a1 := keep a1
  replace a2 := keep a2
  replace b0 := keep b0
  replace b1 := keep b1
  replace b2 := keep b2
  have hbel : Below W1.heap.size W1 W1 := Below.refl _ _
  skip
  by_cases h1 : x.last = y.last
  · have t1 : (x.last != y.last) = false := by simpa using h1
    have t1b : (x.last == y.last) = true := by simpa using h1
    by_cases h2 : x.size = y.size
    · have HV := Lib.hid (ah_3 h1 h2)
      have t2 : (x.size != y.size) = false := by simpa using h2
      have t2b : (x.size == y.size) = true := by simpa using h2
      have H1 := Lib.hid h1
      have H2 := Lib.hid h2
      clear h1 h2
      go_wp2
      go_ret
      exact ⟨ret_bool (by rw [HV.out]), belStep hw hbel⟩
    · have HV := Lib.hid (ah_2 h1 h2)
      have t2 : (x.size != y.size) = true := by simpa using h2
      have t2b : (x.size == y.size) = false := by simpa using h2
      have H1 := Lib.hid h1
      clear h1
      go_wp2
      go_ret
      exact ⟨ret_bool (by rw [HV.out]), belStep hw hbel⟩
  · have HV := Lib.hid (ah_1 h1)
    have t1 : (x.last != y.last) = true := by simpa using h1
    have t1b : (x.last == y.last) = false := by simpa using h1
    go_wp2
    go_ret
    exact ⟨ret_bool (by rw [HV.out]), belStep hw hbel⟩
set_option maxRecDepth 100000 in
set_option maxHeartbeats 16000000 in
theorem iref_Order (a : Option Addr) (len cap : Nat) (L : List ImgV) (b : Option Addr) (ul uc : Nat) (U : List ByteArray) (w : World) (hl : L.length = len) (hR : Row w a len cap 3 (L.flatMap ImgV.cells)) (hri : Rises L) (hu : U.length = ul) (hRU : Row w b ul uc 1 (U.map Value.string)) (hn : len ≤ 100000) :
    Calls Try.prog 67 #[.slice a len cap, .slice b ul uc] w fun e w' => ∃ v, e = .returned v ∧ OwnR w' w.heap.size 46 3 v (orderI L U).length ((orderI L U).flatMap ImgV.cells) ∧ Below w.heap.size w w' := by
  have hw : Below w.heap.size w w := Below.refl _ _
  have hbd_a : len ≤ cap ∧ cap ≤ 9223372036854775807 := by obtain ⟨_, h1, h2, _⟩ := hR; unfold maxLen at h2; exact ⟨h1, h2⟩
  obtain ⟨hbd1_a, hbd2_a⟩ := hbd_a
  have hbd_u : ul ≤ uc ∧ uc ≤ 9223372036854775807 := by obtain ⟨_, h1, h2, _⟩ := hRU; unfold maxLen at h2; exact ⟨h1, h2⟩
  obtain ⟨hbd1_u, hbd2_u⟩ := hbd_u
  have HR := Lib.hid hR
  have HRU := Lib.hid hRU
  have HRI := Lib.hid hri
  clear hR hRU hri
  subst hl hu
  have HHA := Lib.hid (fun u s (hu : Below w.heap.size w u) => iref_Has b U.length uc U s u rfl (HRU.out.later hu))
  go_enter Try.func67, Try.ntmps67
  go_wp2
  go_loopw [5, 6] (fun v i wr => ∃ k : Nat, k ≤ L.length ∧ i = .int .i64 k ∧ OwnR wr w.heap.size 46 3 v ((L.take k).filter (freeI U)).length (((L.take k).filter (freeI U)).flatMap ImgV.cells) ∧ Below w.heap.size w wr) (fun _ i _ => L.length - (intOf i).toNat)
  case atStart => exact ⟨0, Nat.zero_le _, rfl, OwnR.nil _ _ _ _, hw⟩
  case round =>
    clear hw
    obtain ⟨k, hk, rfl, hO, hbr⟩ := hrel
    by_cases hlt : k < L.length
    · have hd : decide ((k : Int) < (L.length : Int)) = true := decide_eq_true (by omega)
      have hki : (k : Int) < (L.length : Int) := by omega
      have hk0 : (0 : Int) ≤ (k : Int) := by omega
      have hfl := filtG_len (freeI U) L k
      obtain ⟨x, hx⟩ : ∃ x, L[k]? = some x := ⟨L[k], List.getElem?_eq_getElem hlt⟩
      obtain ⟨bc, oc, ec, _, hcc⟩ := (HR.out.later hbr).elem ImgV.cells_len (by omega) hx
      subst ec
      have c0 := keep (hcc 0 _ rfl)
      have c1 := keep (hcc 1 _ rfl)
      have c2 := keep (hcc 2 _ rfl)
      rw [Nat.add_zero] at c0
      have HX := Lib.hid hx
      clear hx hcc
      have HBR := Lib.hid hbr
      clear hbr
      have hbel : Below wr.heap.size wr wr := Below.refl _ _
      have CH := Lib.hid (HHA.out wr x.name HBR.out)
      obtain ⟨hs, hhs⟩ : ∃ q, hasU U x.name = q := ⟨_, rfl⟩
      rw [hhs] at CH
      have HHS := Lib.hid hhs
      have HO := Lib.hid hO
      clear hhs hO
      cases hs with
      | false =>
        have HN := Lib.hid (filtG_next (f := freeI U) HX.out (by unfold freeI; rw [HHS.out]; rfl))
        obtain ⟨N, hN⟩ : ∃ N, ((L.take k).filter (freeI U)) = N := ⟨_, rfl⟩
        rw [hN] at HO HN hfl
        clear hN
        go_upto_region 6 with (go_at_call 29; (with_reducible refine (CH.out).mono ?_); rintro e w6 ⟨rfl, hb6⟩; have HB6 := Lib.hid hb6; clear hbel; have hbel := hb6; clear hb6)
        have HOA := Lib.hid (OwnR.alloc (HO.out.later HB6.out) (.cells #[.string x.name, .int .i64 x.size, .int .i64 x.last] 46))
        have HXA := Lib.hid (row_new w6 [.string x.name, .int .i64 x.size, .int .i64 x.last] 46 1 3 rfl (by unfold maxLen; omega))
        clear HO
        go_wp2_with (at_builtin; go_loud (refine wpList_app_row rfl _ _ 39 rfl w.heap.size 46 _ 3 32 Try.underlying39 info_imgI rfl (by decide) _ _ _ rfl HOA.out _ 1 1 [.string x.name, .int .i64 x.size, .int .i64 x.last] rfl HXA.out (img_one x) ?c1 ?c2 ?c3 ?_))
        case c1 => simp only [maxLen]; omega
        case c2 => omega
        case c3 => have := (belStep HBR.out HB6.out).size; simp; omega
        intro v' w7 ho' hb' _
        have HO2 := Lib.hid (own_snocG (enc := ImgV.cells) (x := x) ho')
        have HB2 := Lib.hid (((belAlloc (belStep HBR.out HB6.out) (.cells #[.string x.name, .int .i64 x.size, .int .i64 x.last] 46)).trans hb'))
        clear ho' hb'
        go_wp2
        go_roundw
        case rel => exact ⟨k + 1, by omega, by push_cast; rfl, by rw [HN.out]; exact HO2.out, HB2.out⟩
        case measure => simp [intOf] <;> omega
      | true =>
        have HN := Lib.hid (filtG_same (f := freeI U) HX.out (by unfold freeI; rw [HHS.out]; rfl))
        go_wp2_with (go_at_call 29; (with_reducible refine (CH.out).mono ?_); rintro e w6 ⟨rfl, hb6⟩; have HB6 := Lib.hid hb6; clear hbel; have hbel := hb6; clear hb6)
        go_roundw
        case rel => exact ⟨k + 1, by omega, by push_cast; rfl, by rw [HN.out]; exact HO.out.later HB6.out, belStep HBR.out HB6.out⟩
        case measure => simp [intOf] <;> omega
    · obtain rfl : k = L.length := by omega
      have hd : decide ((L.length : Int) < (L.length : Int)) = false := decide_eq_false (by omega)
      rw [List.take_length] at hO
      obtain ⟨N0, hN0⟩ : ∃ N, L.filter (freeI U) = N := ⟨_, rfl⟩
      have hN0l : N0.length ≤ L.length := by rw [← hN0]; exact List.length_filter_le _ _
      have HR0 := Lib.hid (show Rises N0 from hN0 ▸ filt_rises HRI.out (freeI U))
      have HRES := Lib.hid (show orderI L U = sortBy (ltOf cfI) N0 by unfold orderI; rw [hN0])
      rw [hN0] at hO
      have HO0 := Lib.hid hO
      clear hN0 hO hlt hk HHA HR HRU
      have HB0 := Lib.hid hbr
      clear hbr
      generalize wr = W3 at *
      go_wp2
      go_loopw [5, 7] (fun lv ov wr => ∃ (N O : List ImgV), N.length ≤ 100000 ∧ O.length + N.length ≤ 100000 ∧ lenV lv = N.length ∧ Hid (O ++ sortBy (ltOf cfI) N = sortBy (ltOf cfI) N0) ∧ Hid (Rises N) ∧ Hid (OwnR wr w.heap.size 46 3 lv N.length (N.flatMap ImgV.cells)) ∧ Hid (OwnR wr w.heap.size 46 3 ov O.length (O.flatMap ImgV.cells)) ∧ Hid (Sep ov lv) ∧ Below w.heap.size w wr) (fun lv _ _ => lenV lv)
      case atStart => exact ⟨N0, [], by omega, by simp; omega, (by obtain ⟨a9, c9, e9, _⟩ := rowR_of_own HO0.out; rw [e9]; rfl), Lib.hid rfl, HR0, HO0, Lib.hid (OwnR.nil _ _ _ _), Lib.hid (Sep.nilL _), HB0.out⟩
      case round =>
        clear HO0 HB0 HR0
        obtain ⟨N, O, hNl, hONl, hlv, HSRT, HRN, HOL, HOO, HSEP, hbr⟩ := hrel
        obtain ⟨na, nc, e9, hrow⟩ := rowR_of_own HOL.out
        subst e9
        have hbdn : N.length ≤ nc ∧ nc ≤ 9223372036854775807 := by obtain ⟨_, h1, h2, _⟩ := hrow; unfold maxLen at h2; exact ⟨h1, h2⟩
        obtain ⟨hbdn1, hbdn2⟩ := hbdn
        clear hlv
        by_cases h0 : 0 < N.length
        · have hd : decide ((0 : Int) < (N.length : Int)) = true := decide_eq_true (by omega)
          have HROW := Lib.hid hrow
          have HBR := Lib.hid hbr
          clear hrow hbr
          have hb0 : Below wr.heap.size wr wr := Below.refl _ _
          generalize wr = WO at *
          go_wp2
          go_loopw [8, 9] (fun bv iv wr => ∃ b m : Nat, bv = .int .i64 b ∧ iv = .int .i64 m ∧ 1 ≤ m ∧ m ≤ N.length ∧ b < m ∧ Hid (∀ j y z, j < m → N[j]? = some y → N[b]? = some z → ltOf cfI y z = false) ∧ Below WO.heap.size WO wr) (fun _ iv _ => N.length - (intOf iv).toNat)
          case atStart => exact ⟨0, 1, rfl, rfl, Nat.le_refl _, h0, by omega, Lib.hid (fun j y z hj hy hz => by obtain rfl : j = 0 := (by omega); rw [hy] at hz; cases hz; exact swo_cfI.irrefl _), hb0⟩
          case round =>
            clear hb0
            obtain ⟨b9, m, rfl, rfl, hm1, hmN, hbm, HMIN, hbw⟩ := hrel
            by_cases hlt : m < N.length
            · have hd : decide ((m : Int) < (N.length : Int)) = true := decide_eq_true (by omega)
              have hbN : b9 < N.length := by omega
              have hmi : (m : Int) < (N.length : Int) := by omega
              have hm0 : (0 : Int) ≤ (m : Int) := by omega
              have hbi : (b9 : Int) < (N.length : Int) := by omega
              have hb00 : (0 : Int) ≤ (b9 : Int) := by omega
              obtain ⟨x, hx⟩ : ∃ x, N[m]? = some x := ⟨N[m], List.getElem?_eq_getElem hlt⟩
              obtain ⟨bc, oc, ec, _, hcc⟩ := (HROW.out.later hbw).elem ImgV.cells_len (by omega) hx
              subst ec
              have c0 := keep (hcc 0 _ rfl)
              have c1 := keep (hcc 1 _ rfl)
              have c2 := keep (hcc 2 _ rfl)
              rw [Nat.add_zero] at c0
              obtain ⟨y, hy⟩ : ∃ y, N[b9]? = some y := ⟨N[b9], List.getElem?_eq_getElem hbN⟩
              obtain ⟨be, oe, ee, _, hce⟩ := (HROW.out.later hbw).elem ImgV.cells_len (by omega) hy
              simp only [Option.some.injEq, Addr.mk.injEq, and_true] at ee
              obtain ⟨rfl, rfl⟩ := ee
              have e0 := keep (hce 0 _ rfl)
              have e1 := keep (hce 1 _ rfl)
              have e2 := keep (hce 2 _ rfl)
              rw [Nat.add_zero] at e0
              have HX := Lib.hid hx
              have HY := Lib.hid hy
              clear hx hy hcc hce
              have CA := Lib.hid (fun u => iref_Ahead x y u)
              obtain ⟨ah, hah⟩ : ∃ q, ltOf cfI x y = q := ⟨_, rfl⟩
              rw [hah] at CA
              have HAH := Lib.hid hah
              clear hah
              have HBW := Lib.hid hbw
              clear hbw
              go_wp2
              refine wp_region_held_drew (S := fun u => Below wr.heap.size wr u) (by kernel_rfl) (by exact (show Below wr.heap.size wr _ by repeat (first | assumption | exact Below.refl _ _ | refine belDrew ?_ | refine belAlloc ?_ _ | refine belStep ?_ (by assumption)))) (fun hHeld => ?_)
              refine wpAnyH_take (i := 0) (oi := ?oi_k1) (v := ?v_k1) ?hi_k1 (by kernel_rfl) ?hf_k1 ?hr_k1 ?hQ_k1 (Or.inl ⟨?hw_k1, ?hy_k1⟩) (by assumption) ?rest_k1
              case hi_k1 => ((simp only [List.getElem?_toArray, List.getElem?_cons_succ, List.getElem?_cons_zero]); rfl)
              case hf_k1 => kernel_rfl
              case hr_k1 => kernel_rfl
              case hQ_k1 => exact fun _ _ _ h => h
              case hw_k1 => rfl
              case hy_k1 => ((intro w hSw; (try dsimp only at hSw); go_simp); all_goals (with_reducible rfl))
              try simp only [Act.put, List.setIfInBounds_toArray, List.set_cons_zero, List.set_cons_succ]
              refine wpAnyH_take (i := 1) (oi := ?oi_k2) (v := ?v_k2) ?hi_k2 (by kernel_rfl) ?hf_k2 ?hr_k2 ?hQ_k2 (Or.inl ⟨?hw_k2, ?hy_k2⟩) (by assumption) ?rest_k2
              case hi_k2 => ((simp only [List.getElem?_toArray, List.getElem?_cons_succ, List.getElem?_cons_zero]); rfl)
              case hf_k2 => kernel_rfl
              case hr_k2 => kernel_rfl
              case hQ_k2 => exact fun _ _ _ h => h
              case hw_k2 => rfl
              case hy_k2 => ((intro w hSw; (try dsimp only at hSw); go_simp); all_goals (with_reducible rfl))
              try simp only [Act.put, List.setIfInBounds_toArray, List.set_cons_zero, List.set_cons_succ]
              refine wpAnyH_take (i := 2) (oi := ?oi_k3) (v := ?v_k3) ?hi_k3 (by kernel_rfl) ?hf_k3 ?hr_k3 ?hQ_k3 (Or.inl ⟨?hw_k3, ?hy_k3⟩) (by assumption) ?rest_k3
              case hi_k3 => ((simp only [List.getElem?_toArray, List.getElem?_cons_succ, List.getElem?_cons_zero]); rfl)
              case hf_k3 => kernel_rfl
              case hr_k3 => kernel_rfl
              case hQ_k3 => exact fun _ _ _ h => h
              case hw_k3 => rfl
              case hy_k3 => ((intro w hSw; (try dsimp only at hSw); go_simp); all_goals (with_reducible rfl))
              try simp only [Act.put, List.setIfInBounds_toArray, List.set_cons_zero, List.set_cons_succ]
              refine wpAnyH_take (i := 3) (oi := ?oi_k4) (v := ?v_k4) ?hi_k4 (by kernel_rfl) ?hf_k4 ?hr_k4 ?hQ_k4 (Or.inl ⟨?hw_k4, ?hy_k4⟩) (by assumption) ?rest_k4
              case hi_k4 => ((simp only [List.getElem?_toArray, List.getElem?_cons_succ, List.getElem?_cons_zero]); rfl)
              case hf_k4 => kernel_rfl
              case hr_k4 => kernel_rfl
              case hQ_k4 => exact fun _ _ _ h => h
              case hw_k4 => rfl
              case hy_k4 => ((intro w hSw; (try dsimp only at hSw); go_simp); all_goals (with_reducible rfl))
              try simp only [Act.put, List.setIfInBounds_toArray, List.set_cons_zero, List.set_cons_succ]
              refine wpAnyH_take (i := 4) (oi := ?oi_k5) (v := ?v_k5) ?hi_k5 (by kernel_rfl) ?hf_k5 ?hr_k5 ?hQ_k5 (Or.inl ⟨?hw_k5, ?hy_k5⟩) (by assumption) ?rest_k5
              case hi_k5 => ((simp only [List.getElem?_toArray, List.getElem?_cons_succ, List.getElem?_cons_zero]); rfl)
              case hf_k5 => kernel_rfl
              case hr_k5 => kernel_rfl
              case hQ_k5 => exact fun _ _ _ h => h
              case hw_k5 => rfl
              case hy_k5 => ((intro w hSw; (try dsimp only at hSw); go_simp); all_goals (with_reducible rfl))
              try simp only [Act.put, List.setIfInBounds_toArray, List.set_cons_zero, List.set_cons_succ]
              refine wpAnyH_take (i := 5) (oi := ?oi_k6) (v := ?v_k6) ?hi_k6 (by kernel_rfl) ?hf_k6 ?hr_k6 ?hQ_k6 (Or.inl ⟨?hw_k6, ?hy_k6⟩) (by assumption) ?rest_k6
              case hi_k6 => ((simp only [List.getElem?_toArray, List.getElem?_cons_succ, List.getElem?_cons_zero]); rfl)
              case hf_k6 => kernel_rfl
              case hr_k6 => kernel_rfl
              case hQ_k6 => exact fun _ _ _ h => h
              case hw_k6 => rfl
              case hy_k6 => ((intro w hSw; (try dsimp only at hSw); go_simp); all_goals (with_reducible rfl))
              try simp only [Act.put, List.setIfInBounds_toArray, List.set_cons_zero, List.set_cons_succ]
              refine wpAnyH_take (i := 6) (oi := ?oi_k7) (v := ?v_k7) ?hi_k7 (by kernel_rfl) ?hf_k7 ?hr_k7 ?hQ_k7 (Or.inl ⟨?hw_k7, ?hy_k7⟩) (by assumption) ?rest_k7
              case hi_k7 => ((simp only [List.getElem?_toArray, List.getElem?_cons_succ, List.getElem?_cons_zero]); rfl)
              case hf_k7 => kernel_rfl
              case hr_k7 => kernel_rfl
              case hQ_k7 => exact fun _ _ _ h => h
              case hw_k7 => rfl
              case hy_k7 => ((intro w hSw; (try dsimp only at hSw); go_simp); all_goals (with_reducible rfl))
              try simp only [Act.put, List.setIfInBounds_toArray, List.set_cons_zero, List.set_cons_succ]
              refine wpAnyH_take (i := 7) (oi := ?oi_k8) (v := ?v_k8) ?hi_k8 (by kernel_rfl) ?hf_k8 ?hr_k8 ?hQ_k8 (Or.inl ⟨?hw_k8, ?hy_k8⟩) (by assumption) ?rest_k8
              case hi_k8 => ((simp only [List.getElem?_toArray, List.getElem?_cons_succ, List.getElem?_cons_zero]); rfl)
              case hf_k8 => kernel_rfl
              case hr_k8 => kernel_rfl
              case hQ_k8 => exact fun _ _ _ h => h
              case hw_k8 => rfl
              case hy_k8 => ((intro w hSw; (try dsimp only at hSw); go_simp); all_goals (with_reducible rfl))
              try simp only [Act.put, List.setIfInBounds_toArray, List.set_cons_zero, List.set_cons_succ]
              refine wpAnyH_ready (rs := [8]) (by kernel_rfl) (by simp) ?_
              refine AllReadyH.cons (o := ?o1_k9) ?hi_k9 (fun K hK => ?rest_k9) AllReadyH.nil
              case hi_k9 => ((simp only [List.getElem?_toArray, List.getElem?_cons_succ, List.getElem?_cons_zero]); rfl)
              go_simp
              (go_at_call 99; (with_reducible refine (CA.out _).mono ?_); rintro e wq ⟨rfl, hbq⟩)
              try go_simp
              have hHq := belStep hHeld hbq
              refine hK.out _ _ (by exact hHq) (fun hHeld => ?_)
              clear hK K
              try simp only [Act.put, List.setIfInBounds_toArray, List.set_cons_zero, List.set_cons_succ]
              refine wpAnyH_done (by kernel_rfl) ?_ _
              have HBQ := Lib.hid (belStep HBW.out hHeld)
              cases ah with
              | false =>
                have HM2 := Lib.hid (show ∀ j y z, j < m + 1 → N[j]? = some y → N[b9]? = some z → ltOf cfI y z = false from fun j y2 z2 hj hy2 hz2 => by
                  rcases Nat.lt_or_ge j m with h | h
                  · exact HMIN.out j y2 z2 h hy2 hz2
                  · obtain rfl : j = m := by omega
                    obtain rfl := Option.some.inj (HX.out.symm.trans hy2)
                    obtain rfl := Option.some.inj (HY.out.symm.trans hz2)
                    exact HAH.out)
                go_wp2
                go_roundw
                case rel => exact ⟨b9, m + 1, rfl, by push_cast; rfl, by omega, by omega, by omega, HM2, HBQ.out⟩
                case measure => simp [intOf] <;> omega
              | true =>
                have HM2 := Lib.hid (show ∀ j y z, j < m + 1 → N[j]? = some y → N[m]? = some z → ltOf cfI y z = false from fun j y2 z2 hj hy2 hz2 => by
                  obtain rfl := Option.some.inj (HX.out.symm.trans hz2)
                  rcases Nat.lt_or_ge j m with h | h
                  · have h1 := HMIN.out j y2 y h hy2 HY.out
                    cases h3 : ltOf cfI y2 x with
                    | false => rfl
                    | true => rw [swo_cfI.trans y2 x y h3 HAH.out] at h1; cases h1
                  · obtain rfl : j = m := by omega
                    obtain rfl := Option.some.inj (HX.out.symm.trans hy2)
                    exact swo_cfI.irrefl _)
                go_wp2
                go_roundw
                case rel => exact ⟨m, m + 1, rfl, by push_cast; rfl, by omega, by omega, by omega, HM2, HBQ.out⟩
                case measure => simp [intOf] <;> omega
            · obtain rfl : m = N.length := by omega
              have hd : decide ((N.length : Int) < (N.length : Int)) = false := decide_eq_false (by omega)
              have hbi : (b9 : Int) < (N.length : Int) := by omega
              have hb00 : (0 : Int) ≤ (b9 : Int) := by omega
              obtain ⟨x, hx⟩ : ∃ x, N[b9]? = some x := ⟨N[b9], List.getElem?_eq_getElem hbm⟩
              obtain ⟨bc, oc, ec, _, hcc⟩ := (HROW.out.later hbw).elem ImgV.cells_len (by omega) hx
              subst ec
              have c0 := keep (hcc 0 _ rfl)
              have c1 := keep (hcc 1 _ rfl)
              have c2 := keep (hcc 2 _ rfl)
              rw [Nat.add_zero] at c0
              have HSTEP := Lib.hid (sel_step HRN.out hx (fun y hy => by obtain ⟨j, hj⟩ := List.getElem?_of_mem hy; exact HMIN.out j y x (List.getElem?_eq_some_iff.1 hj).1 hj hx))
              have HDL := Lib.hid (drop_len HRN.out hx)
              have HDR := Lib.hid (show Rises (dropI N x.name) from filt_rises HRN.out _)
              clear hx hcc HMIN
              have HOL2 := Lib.hid (HOL.out.later hbw)
              have HOO2 := Lib.hid (HOO.out.later hbw)
              have HBW := Lib.hid (belStep HBR.out hbw)
              clear hbw
              have hbel : Below wr.heap.size wr wr := Below.refl _ _
              go_upto_region 16 with fail
              have k1 : Below wr.heap.size wr (wr.alloc (.cells #[.string x.name, .int .i64 x.size, .int .i64 x.last] 46)) := belAlloc (Below.refl _ _) _
              have HXB := Lib.hid (show Blk (wr.alloc (.cells #[.string x.name, .int .i64 x.size, .int .i64 x.last] 46)) wr.heap.size [.string x.name, .int .i64 x.size, .int .i64 x.last] 46 from Blk.new wr [.string x.name, .int .i64 x.size, .int .i64 x.last] 46)
              have hnx := own_ne_new HOO2.out (Nat.le_refl _)
              replace HOL2 := Lib.hid (HOL2.out.later k1)
              replace HOO2 := Lib.hid (HOO2.out.later k1)
              have HB5 := Lib.hid (belStep HBW.out k1)
              clear hbel k1 c0 c1 c2
              generalize wr.alloc (.cells #[.string x.name, .int .i64 x.size, .int .i64 x.last] 46) = W5 at *
              have hbel : Below W5.heap.size W5 W5 := Below.refl _ _
              have xx0 := keep (HXB.out.cell (j := 0) rfl)
              have xx1 := keep (HXB.out.cell (j := 1) rfl)
              have xx2 := keep (HXB.out.cell (j := 2) rfl)
              have HOA := Lib.hid (OwnR.alloc HOO2.out (.cells #[.string x.name, .int .i64 x.size, .int .i64 x.last] 46))
              have HXA := Lib.hid (row_new W5 [.string x.name, .int .i64 x.size, .int .i64 x.last] 46 1 3 rfl (by unfold maxLen; omega))
              have k2 : Below W5.heap.size W5 (W5.alloc (.cells #[.string x.name, .int .i64 x.size, .int .i64 x.last] 46)) := belAlloc (Below.refl _ _) _
              have HOL3 := Lib.hid (HOL2.out.later k2)
              have HXB3 := Lib.hid (show Blk (W5.alloc (.cells #[.string x.name, .int .i64 x.size, .int .i64 x.last] 46)) wr.heap.size [.string x.name, .int .i64 x.size, .int .i64 x.last] 46 from HXB.out.later k2)
              go_upto_region 17 with (at_builtin; go_loud (refine wpList_app_sep rfl _ _ 39 rfl w.heap.size 46 _ 3 32 Try.underlying39 info_imgI rfl (by decide) _ _ _ rfl HOA.out ⟨W5.heap.size, 0, none⟩ 1 1 [.string x.name, .int .i64 x.size, .int .i64 x.last] rfl HXA.out (img_one x) ?c1 ?c2 ?c3 ?_))
              case c1 => simp only [maxLen]; omega
              case c2 => omega
              case c3 => have := HB5.out.size; simp; omega
              intro v' w6 ho' hb' hg' hm'
              have HO6 := Lib.hid (own_snocG (enc := ImgV.cells) (x := x) ho')
              have HL6 := Lib.hid (HOL3.out.sep hg' HSEP.out)
              have HX6 := Lib.hid (HXB3.out.grown hg' hnx)
              have HB6 := Lib.hid ((belStep HB5.out k2).trans hb')
              clear ho' hb' hg' hm' hbel xx0 xx1 xx2 k2 HOA HXA
              have hbel : Below w6.heap.size w6 w6 := Below.refl _ _
              have xx0 := keep (HX6.out.cell (j := 0) rfl)
              have xx1 := keep (HX6.out.cell (j := 1) rfl)
              have xx2 := keep (HX6.out.cell (j := 2) rfl)
              obtain ⟨na2, nc2, e9, hrow6⟩ := rowR_of_own HL6.out
              simp only [Value.slice.injEq] at e9
              obtain ⟨rfl, _, rfl⟩ := e9
              have CD := Lib.hid (iref_Drop _ N.length _ N x.name w6 rfl hrow6 hNl)
              clear hrow6
              go_wp2_with (go_at_call 100; (with_reducible refine (CD.out).mono ?_); rintro e w7 ⟨v7, rfl, ho7, hb7⟩)
              have HO7 := Lib.hid (HO6.out.later hb7)
              have HSP7 := Lib.hid (sep_new HO6.out ho7)
              have HL7 := Lib.hid (OwnR.mono ho7 (show w.heap.size ≤ w6.heap.size from HB6.out.size))
              have HB7 := Lib.hid (belStep HB6.out hb7)
              have HDL2 := HDL.out
              have HLV := Lib.hid (show lenV v7 = (dropI N x.name).length by obtain ⟨a9, c9, e9, _⟩ := rowR_of_own ho7; rw [e9]; rfl)
              have HLV0 := HLV.out
              clear ho7 hb7
              go_roundw
              case rel => exact ⟨dropI N x.name, O ++ [x], by omega, by rw [List.length_append]; simp; omega, HLV.out, Lib.hid (by have h := HSRT.out; rw [HSTEP.out] at h; rw [List.append_assoc]; exact h), HDR, HL7, HO7, HSP7, HB7.out⟩
              case measure => simp only [lenV] at *; omega
        · obtain rfl : N = [] := List.eq_nil_of_length_eq_zero (by omega)
          have hd : decide ((0 : Int) < (0 : Int)) = false := rfl
          have HFIN := Lib.hid (show O = sortBy (ltOf cfI) N0 from by have h := HSRT.out; rw [sortBy_nil, List.append_nil] at h; exact h)
          clear hrow
          go_wp2
          go_ret
          exact ⟨_, rfl, by rw [HRES.out, ← HFIN.out]; exact HOO.out, hbr⟩
end Go.Proofs.Ytampkolkbjmmkaa
