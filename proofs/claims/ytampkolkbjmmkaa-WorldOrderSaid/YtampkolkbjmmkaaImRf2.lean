
/- The reference: Drop, Touch. -/
import Derived.Test.YtampkolkbjmmkaaImRf1
namespace Go.Proofs.Ytampkolkbjmmkaa
open Go.RowKit
set_option linter.unusedVariables false
set_option linter.unusedSimpArgs false
set_option maxRecDepth 100000 in
set_option maxHeartbeats 16000000 in
theorem iref_Drop (a : Option Addr) (len cap : Nat) (L : List ImgV) (s : ByteArray) (w : World) (hl : L.length = len) (hR : Row w a len cap 3 (L.flatMap ImgV.cells)) (hn : len ≤ 100000) :
    Calls Try.prog 100 #[.slice a len cap, .string s] w fun e w' => ∃ v, e = .returned v ∧ OwnR w' w.heap.size 46 3 v (dropI L s).length ((dropI L s).flatMap ImgV.cells) ∧ Below w.heap.size w w' := by
  have hw : Below w.heap.size w w := Below.refl _ _
  have hbd_a : len ≤ cap ∧ cap ≤ 9223372036854775807 := by obtain ⟨_, h1, h2, _⟩ := hR; unfold maxLen at h2; exact ⟨h1, h2⟩
  obtain ⟨hbd1_a, hbd2_a⟩ := hbd_a
  have HR := Lib.hid hR
  clear hR
  subst hl
  go_enter Try.func100, Try.ntmps100
  go_wp2
  go_loopw [5, 6] (fun v i wr => ∃ k : Nat, k ≤ L.length ∧ i = .int .i64 k ∧ OwnR wr w.heap.size 46 3 v ((L.take k).filter (fun x : ImgV => !(x.name.toList == s.toList))).length (((L.take k).filter (fun x : ImgV => !(x.name.toList == s.toList))).flatMap ImgV.cells) ∧ Below w.heap.size w wr) (fun _ i _ => L.length - (intOf i).toNat)
  case atStart => exact ⟨0, Nat.zero_le _, rfl, OwnR.nil _ _ _ _, hw⟩
  case round =>
    clear hw
    obtain ⟨k, hk, rfl, hO, hbr⟩ := hrel
    by_cases hlt : k < L.length
    · have hd : decide ((k : Int) < (L.length : Int)) = true := decide_eq_true (by omega)
      have hki : (k : Int) < (L.length : Int) := by omega
      have hk0 : (0 : Int) ≤ (k : Int) := by omega
      have hfl := filtG_len (fun x : ImgV => !(x.name.toList == s.toList)) L k
      obtain ⟨x, hx⟩ : ∃ x, L[k]? = some x := ⟨L[k], List.getElem?_eq_getElem hlt⟩
      obtain ⟨bc, oc, ec, _, hcc⟩ := (HR.out.later hbr).elem ImgV.cells_len (by omega) hx
      subst ec
      have c0 := keep (hcc 0 _ rfl)
      have c1 := keep (hcc 1 _ rfl)
      have c2 := keep (hcc 2 _ rfl)
      rw [Nat.add_zero] at c0
      have HX := Lib.hid hx
      clear hx hcc
      have HBR := Lib.hid hbr
      clear hbr
      have hbel : Below wr.heap.size wr wr := Below.refl _ _
      cases he : (x.name.toList == s.toList) with
      | true =>
        have HN := Lib.hid (filtG_same (f := (fun x : ImgV => !(x.name.toList == s.toList))) HX.out (by simp only [he]; rfl))
        have hne : (x.name.toList != s.toList) = false := by simp [bne, he]
        have HO := Lib.hid hO
        clear hO
        go_wp2
        go_roundw
        case rel => exact ⟨k + 1, by omega, by push_cast; rfl, by rw [HN.out]; exact HO.out, HBR.out⟩
        case measure => simp [intOf] <;> omega
      | false =>
        have HN := Lib.hid (filtG_next (f := (fun x : ImgV => !(x.name.toList == s.toList))) HX.out (by simp only [he]; rfl))
        have hne : (x.name.toList != s.toList) = true := by simp [bne, he]
        obtain ⟨N, hN⟩ : ∃ N, ((L.take k).filter (fun x : ImgV => !(x.name.toList == s.toList))) = N := ⟨_, rfl⟩
        rw [hN] at hO HN hfl
        clear hN
        have HOA := Lib.hid (OwnR.alloc hO (.cells #[.string x.name, .int .i64 x.size, .int .i64 x.last] 46))
        have HXA := Lib.hid (row_new wr [.string x.name, .int .i64 x.size, .int .i64 x.last] 46 1 3 rfl (by unfold maxLen; omega))
        clear hO
        go_wp2_with (at_builtin; go_loud (refine wpList_app_row rfl _ _ 39 rfl w.heap.size 46 _ 3 32 Try.underlying39 info_imgI rfl (by decide) _ _ _ rfl HOA.out _ 1 1 [.string x.name, .int .i64 x.size, .int .i64 x.last] rfl HXA.out (img_one x) ?c1 ?c2 ?c3 ?_))
        case c1 => simp only [maxLen]; omega
        case c2 => omega
        case c3 => have := HBR.out.size; simp; omega
        intro v' w6 ho' hb' _
        have HO2 := Lib.hid (own_snocG (enc := ImgV.cells) (x := x) ho')
        have HB2 := Lib.hid (((belAlloc HBR.out (.cells #[.string x.name, .int .i64 x.size, .int .i64 x.last] 46)).trans hb'))
        clear ho' hb'
        go_wp2
        go_roundw
        case rel => exact ⟨k + 1, by omega, by push_cast; rfl, by rw [HN.out]; exact HO2.out, HB2.out⟩
        case measure => simp [intOf] <;> omega
    · obtain rfl : k = L.length := by omega
      have hd : decide ((L.length : Int) < (L.length : Int)) = false := decide_eq_false (by omega)
      rw [List.take_length] at hO
      go_wp2
      go_ret
      exact ⟨_, rfl, hO, hbr⟩
set_option maxRecDepth 100000 in
set_option maxHeartbeats 16000000 in
theorem iref_Touch (a : Option Addr) (len cap : Nat) (L : List ImgV) (b : Option Addr) (ul uc : Nat) (U : List ByteArray) (round : Int) (w : World) (hl : L.length = len) (hR : Row w a len cap 3 (L.flatMap ImgV.cells)) (hu : U.length = ul) (hRU : Row w b ul uc 1 (U.map Value.string)) (hn : len ≤ 100000) :
    Calls Try.prog 108 #[.slice a len cap, .slice b ul uc, .int .i64 round] w fun e w' => ∃ v, e = .returned v ∧ OwnR w' w.heap.size 46 3 v (touchI L U round).length ((touchI L U round).flatMap ImgV.cells) ∧ Below w.heap.size w w' := by
  have hw : Below w.heap.size w w := Below.refl _ _
  have hbd_a : len ≤ cap ∧ cap ≤ 9223372036854775807 := by obtain ⟨_, h1, h2, _⟩ := hR; unfold maxLen at h2; exact ⟨h1, h2⟩
  obtain ⟨hbd1_a, hbd2_a⟩ := hbd_a
  have hbd_u : ul ≤ uc ∧ uc ≤ 9223372036854775807 := by obtain ⟨_, h1, h2, _⟩ := hRU; unfold maxLen at h2; exact ⟨h1, h2⟩
  obtain ⟨hbd1_u, hbd2_u⟩ := hbd_u
  have HR := Lib.hid hR
  have HRU := Lib.hid hRU
  clear hR hRU
  subst hl hu
  go_enter Try.func108, Try.ntmps108
  go_wp2
  go_loopw [7, 8] (fun v i wr => ∃ k : Nat, k ≤ L.length ∧ i = .int .i64 k ∧ OwnR wr w.heap.size 46 3 v ((L.take k).map (fun x : ImgV => if hasU U x.name then { x with last := round } else x)).length (((L.take k).map (fun x : ImgV => if hasU U x.name then { x with last := round } else x)).flatMap ImgV.cells) ∧ Below w.heap.size w wr) (fun _ i _ => L.length - (intOf i).toNat)
  case atStart => exact ⟨0, Nat.zero_le _, rfl, OwnR.nil _ _ _ _, hw⟩
  case round =>
    clear hw
    obtain ⟨k, hk, rfl, hO, hbr⟩ := hrel
    by_cases hlt : k < L.length
    · have hd : decide ((k : Int) < (L.length : Int)) = true := decide_eq_true (by omega)
      have hki : (k : Int) < (L.length : Int) := by omega
      have hk0 : (0 : Int) ≤ (k : Int) := by omega
      obtain ⟨x, hx⟩ : ∃ x, L[k]? = some x := ⟨L[k], List.getElem?_eq_getElem hlt⟩
      obtain ⟨bc, oc, ec, _, hcc⟩ := (HR.out.later hbr).elem ImgV.cells_len (by omega) hx
      subst ec
      have c0 := keep (hcc 0 _ rfl)
      have c1 := keep (hcc 1 _ rfl)
      have c2 := keep (hcc 2 _ rfl)
      rw [Nat.add_zero] at c0
      have HN := Lib.hid (mapG_next (f := (fun x : ImgV => if hasU U x.name then { x with last := round } else x)) hx)
      clear hx hcc
      obtain ⟨N, hN⟩ : ∃ N, ((L.take k).map (fun x : ImgV => if hasU U x.name then { x with last := round } else x)) = N := ⟨_, rfl⟩
      have hNl : N.length ≤ L.length := by rw [← hN]; simp; omega
      rw [hN] at hO HN
      clear hN
      have HBR := Lib.hid hbr
      clear hbr
      have hbel : Below wr.heap.size wr wr := Below.refl _ _
      go_upto_region 6 with fail
      have k1 : Below wr.heap.size wr (wr.alloc (.cells #[.string x.name, .int .i64 x.size, .int .i64 x.last] 46)) := belAlloc (Below.refl _ _) _
      have HXB := Lib.hid (show Blk (wr.alloc (.cells #[.string x.name, .int .i64 x.size, .int .i64 x.last] 46)) wr.heap.size [.string x.name, .int .i64 x.size, .int .i64 x.last] 46 from Blk.new wr [.string x.name, .int .i64 x.size, .int .i64 x.last] 46)
      have HO := Lib.hid (OwnR.alloc hO (.cells #[.string x.name, .int .i64 x.size, .int .i64 x.last] 46))
      have hnx := own_ne_new hO (Nat.le_refl _)
      have HB5 := Lib.hid (belStep HBR.out k1)
      clear hO hbel k1 c0 c1 c2
      have HHA := Lib.hid (fun u (hu : Below w.heap.size w u) => iref_Has b U.length uc U x.name u rfl (HRU.out.later hu))
      have hx1 : wr.heap.size < (wr.alloc (.cells #[.string x.name, .int .i64 x.size, .int .i64 x.last] 46)).heap.size := HXB.out.lt
      have hsr := HBR.out.size
      generalize wr.alloc (.cells #[.string x.name, .int .i64 x.size, .int .i64 x.last] 46) = W5 at *
      have hbel : Below W5.heap.size W5 W5 := Below.refl _ _
      have xx0 := keep (HXB.out.cell (j := 0) rfl)
      have xx1 := keep (HXB.out.cell (j := 1) rfl)
      have xx2 := keep (HXB.out.cell (j := 2) rfl)
      obtain ⟨h9, hh9⟩ : ∃ q, hasU U x.name = q := ⟨_, rfl⟩
      rw [hh9] at HHA
      have HH9 := Lib.hid hh9
      clear hh9
      cases h9 with
      | false =>
        have HN2 := Lib.hid (HN.out.trans (show N ++ [(fun x : ImgV => if hasU U x.name then { x with last := round } else x) x] = N ++ [x] by simp only [HH9.out]; rfl))
        go_upto_region 8 with (go_at_call 29; (with_reducible refine (HHA.out _ HB5.out).mono ?_); rintro e w6 ⟨rfl, hb6⟩; have HB6 := Lib.hid hb6; clear hbel; have hbel := hb6; clear hb6)
        have HOA := Lib.hid (OwnR.alloc (HO.out.later HB6.out) (.cells #[.string x.name, .int .i64 x.size, .int .i64 x.last] 46))
        have HXA := Lib.hid (row_new w6 [.string x.name, .int .i64 x.size, .int .i64 x.last] 46 1 3 rfl (by unfold maxLen; omega))
        clear HO
        go_wp2_with (at_builtin; go_loud (refine wpList_app_row rfl _ _ 39 rfl w.heap.size 46 _ 3 32 Try.underlying39 info_imgI rfl (by decide) _ _ _ rfl HOA.out _ 1 1 [.string x.name, .int .i64 x.size, .int .i64 x.last] rfl HXA.out (img_one x) ?c1 ?c2 ?c3 ?_))
        case c1 => simp only [maxLen]; omega
        case c2 => omega
        case c3 => have := (belStep HB5.out HB6.out).size; simp; omega
        intro v' w7 ho' hb' _
        have HO2 := Lib.hid (own_snocG (enc := ImgV.cells) (x := x) ho')
        have HB2 := Lib.hid (((belAlloc (belStep HB5.out HB6.out) (.cells #[.string x.name, .int .i64 x.size, .int .i64 x.last] 46)).trans hb'))
        clear ho' hb'
        go_wp2
        go_roundw
        case rel => exact ⟨k + 1, by omega, by push_cast; rfl, by rw [HN2.out]; exact HO2.out, HB2.out⟩
        case measure => simp [intOf] <;> omega
      | true =>
        have HN2 := Lib.hid (HN.out.trans (show N ++ [(fun x : ImgV => if hasU U x.name then { x with last := round } else x) x] = N ++ [(⟨x.name, x.size, round⟩ : ImgV)] by simp only [HH9.out]; rfl))
        go_upto_region 7 with (go_at_call 29; (with_reducible refine (HHA.out _ HB5.out).mono ?_); rintro e w6 ⟨rfl, hb6⟩; have HB6 := Lib.hid hb6; clear hbel; have hbel := hb6; clear hb6)
        have HX6 := Lib.hid (HXB.out.later HB6.out)
        have HO6 := Lib.hid (HO.out.later HB6.out)
        have c2 := HX6.out.cell (j := 2) rfl
        have cf := HX6.out.frozen
        have hHX := Lib.hid (HX6.out.set 2 (.int .i64 round))
        have HO7 := Lib.hid (own_apart HO6.out hnx 2 (.int .i64 round))
        have HB7 := Lib.hid (belSet (belStep HB5.out HB6.out) ⟨wr.heap.size, 2, none⟩ (.int .i64 round) hsr)
        clear xx0 xx1 xx2 HX6 HO6 HO
        go_upto_region 8 with fail
        clear c2 cf hbel
        generalize w6.setCell ⟨wr.heap.size, 2, none⟩ (.int .i64 round) = W7 at *
        have hbel : Below W7.heap.size W7 W7 := Below.refl _ _
        have xx0 := keep (hHX.out.cell (j := 0) rfl)
        have xx1 := keep (hHX.out.cell (j := 1) rfl)
        have xx2 := keep (hHX.out.cell (j := 2) rfl)
        have HOB := Lib.hid (OwnR.alloc HO7.out (.cells #[.string x.name, .int .i64 x.size, .int .i64 round] 46))
        have HXB := Lib.hid (row_new W7 [.string x.name, .int .i64 x.size, .int .i64 round] 46 1 3 rfl (by unfold maxLen; omega))
        go_wp2_with (at_builtin; go_loud (refine wpList_app_row rfl _ _ 39 rfl w.heap.size 46 _ 3 32 Try.underlying39 info_imgI rfl (by decide) _ _ _ rfl HOB.out _ 1 1 [.string x.name, .int .i64 x.size, .int .i64 round] rfl HXB.out (img_one (⟨x.name, x.size, round⟩ : ImgV)) ?c1 ?c2 ?c3 ?_))
        case c1 => simp only [maxLen]; omega
        case c2 => omega
        case c3 => have := HB7.out.size; simp; omega
        intro v' w8 ho' hb' _
        have HO2 := Lib.hid (own_snocG (enc := ImgV.cells) (x := ⟨x.name, x.size, round⟩) ho')
        have HB2 := Lib.hid (((belAlloc HB7.out (.cells #[.string x.name, .int .i64 x.size, .int .i64 round] 46)).trans hb'))
        clear ho' hb'
        go_wp2
        go_roundw
        case rel => exact ⟨k + 1, by omega, by push_cast; rfl, by rw [HN2.out]; exact HO2.out, HB2.out⟩
        case measure => simp [intOf] <;> omega
    · obtain rfl : k = L.length := by omega
      have hd : decide ((L.length : Int) < (L.length : Int)) = false := decide_eq_false (by omega)
      rw [List.take_length] at hO
      go_wp2
      go_ret
      exact ⟨_, rfl, hO, hbr⟩
end Go.Proofs.Ytampkolkbjmmkaa
