
/- Stage 10: disk.files, disk.look: contracts. -/
import Derived.Test.YtcbblgeleboggaaDk3b
import Derived.Test.YtcbblgeleboggaaMaps
namespace Go.Proofs.Ytcbblgeleboggaa
open Go.RowKit Go.Sort Go.Maps Go.WideMaps
set_option linter.unusedVariables false
set_option linter.unusedSimpArgs false
set_option maxRecDepth 100000 in
set_option maxHeartbeats 16000000 in
theorem dk_files (M : Nat) (X F : List Nat) (d : DiskV) (w : World) (h : DAt w M X F d) :
    Calls Try.prog 35 #[.pointer (some ⟨M, 0, none⟩)] w fun e w' => ∃ mb n D, e = .returned (.map (some mb)) ∧ n ≤ d.cap ∧ w'.ownsMap Try.prog 9 RH mb n D ∧ Link (X ++ F) w' D d.files ∧ w.heap.size ≤ mb ∧ Below w.heap.size w w' := by
  obtain ⟨p, v, T, rfl, hb, hp, _⟩ := h
  have m0 := hb.cell (j := 0) rfl
  have hw : Below w.heap.size w w := Below.refl _ _
  rcases hp with ⟨rfl, hf⟩ | ⟨mb, n, D, rfl, hn, hm, hl, hmX⟩
  · have hmm := @run_makeMap Try.prog
    have hq := fun u : World => run_eql_map_nil_sl (P := Try.prog) u 58 9 29 none Try.underlying58
    go_enter Try.func35, Try.ntmps35
    go_wp2
    go_ret
    have hb1 := belAlloc (Below.refl w.heap.size w) (.map #[] 0)
    exact ⟨_, 0, .map [], rfl, Nat.zero_le _, World.ownsMap_made _ _ _ _, by rw [hf]; exact Link.empty _ _, Nat.le_refl _, hb1⟩
  · have hq := fun u : World => run_eql_map_nil_sl (P := Try.prog) u 58 9 29 (some mb) Try.underlying58
    have CC := Lib.hid (show Calls Try.prog 50 #[.map (some mb)] w fun e w' => e = .returned (.map (some w.heap.size)) ∧ w'.ownsMap Try.prog 9 RH w.heap.size n D ∧ w'.ownsMap Try.prog 9 RH mb n D ∧ Below w.heap.size w w' from AnyW.maps_Clone_owns Try.mapsClone 9 RH mb n D w hm)
    have HL := Lib.hid hl
    clear hm hl
    go_enter Try.func35, Try.ntmps35
    go_wp2_with (go_at_call 50; (with_reducible refine (CC.out).mono ?_); rintro e w1 ⟨rfl, ho_, _, hb_⟩; have HO := Lib.hid ho_; have HB := Lib.hid hb_; clear ho_ hb_)
    go_ret
    exact ⟨_, n, D, rfl, hn, HO.out, HL.out.conv (fun a c Z q => q.later HB.out), Nat.le_refl _, HB.out⟩
set_option maxRecDepth 100000 in
set_option maxHeartbeats 16000000 in
theorem dk_look (M : Nat) (X F : List Nat) (d : DiskV) (w : World) (h : DAt w M X F d) (hc : d.cap + d.done.length ≤ 100000) :
    Calls Try.prog 27 #[.pointer (some ⟨M, 0, none⟩)] w fun e w' => ∃ mb n D, e = .returned (.map (some mb)) ∧ n ≤ d.cap + d.done.length ∧ w'.ownsMap Try.prog 9 RH mb n D ∧ Link (X ++ F) w' D d.look ∧ w.heap.size ≤ mb ∧ Below w.heap.size w w' := by
  have CF := Lib.hid (dk_files M X F d w h)
  obtain ⟨p, v, T, rfl, hb, _, ho, hT, hz, _⟩ := h
  obtain ⟨oa, oc, rfl, hr⟩ := rowR_of_own ho
  have hbr : T.length ≤ oc ∧ oc ≤ 9223372036854775807 := by obtain ⟨_, h1, h2, _⟩ := hr; unfold maxLen at h2; exact ⟨h1, h2⟩
  obtain ⟨hbr1, hbr2⟩ := hbr
  have HR := Lib.hid hr
  have HZ := Lib.hid hz
  have HT := Lib.hid hT
  have hTl : T.length = d.done.length := by rw [← hT, List.length_map]
  have HTL := Lib.hid hTl
  have hTn : T.length ≤ 100000 := by omega
  have hcap : d.cap ≤ 100000 := by omega
  have HBM := Lib.hid hb
  clear ho hr hz hT hTl
  have m1 := keep (hb.cell (j := 1) rfl)
  have hw : Below w.heap.size w w := Below.refl _ _
  have hbel := hw
  clear hb
  go_enter Try.func27, Try.ntmps27
  go_upto_region 2 with (go_at_call 35; (with_reducible refine (CF.out).mono ?_); rintro e w1 ⟨mb, n0, D0, rfl, hn0, ho_, hl_, hg_, hb_⟩; have HO := Lib.hid ho_; have HL := Lib.hid hl_; have hbz := belStep hbel hb_; clear hbel; have hbel := hbz; have HGE := Lib.hid hg_; clear ho_ hl_ hb_ hbz hg_)
  clear hw CF
  go_wp2
  clear m1
  go_loopw [13] (fun iv wr => ∃ (k n : Nat) (D : DataW Value), k ≤ T.length ∧ iv = .int .i64 k ∧ n ≤ n0 + k ∧ Hid (wr.ownsMap Try.prog 9 RH mb n D) ∧ Hid (Link (X ++ footD M (.slice oa T.length oc)) wr D (((T.take k).map OpV.m).foldl applyF d.files)) ∧ Below w.heap.size w wr) (fun iv _ => T.length - (intOf iv).toNat)
  case atStart => exact ⟨0, n0, D0, Nat.zero_le _, rfl, Nat.le_refl _, HO, HL, hbel⟩
  case round =>
    clear hbel HO HL
    obtain ⟨k, n, D, hk, rfl, hn, HO, HL, hbel⟩ := hrel
    by_cases hlt : k < T.length
    · have hd : decide ((k : Int) < (T.length : Int)) = true := decide_eq_true (by omega)
      have hki : (k : Int) < (T.length : Int) := by omega
      have hk0 : (0 : Int) ≤ (k : Int) := by omega
      obtain ⟨o, ho⟩ : ∃ o, T[k]? = some o := ⟨T[k], List.getElem?_eq_getElem hlt⟩
      obtain ⟨bc, oc, ec, _, hcc⟩ := (HR.out).elem OpV.cells_len (by omega) ho
      subst ec
      have c0 := keep (hcc 0 _ rfl)
      have c1 := keep (hcc 1 _ rfl)
      have c2 := keep (hcc 2 _ rfl)
      have c3 := keep (hcc 3 _ rfl)
      rw [Nat.add_zero] at c0
      have HZO := Lib.hid (HZ.out o (List.mem_of_getElem? ho))
      have HN := Lib.hid (show ((T.take (k + 1)).map OpV.m).foldl applyF d.files = applyF (((T.take k).map OpV.m).foldl applyF d.files) o.m by rw [takeD_next ho, List.map_append, List.foldl_append]; rfl)
      clear ho hcc
      go_upto_region 5 with fail
      clear c0 c1 c2 c3
      have kB := belAlloc (Below.refl wr.heap.size wr) (.cells #[.int .i64 o.kind, .string o.name, .string o.dst, .slice o.ba o.Z.length o.bc] 49)
      have HO5 := Lib.hid (ownsMap_same HO.out (kB.block mb HO.out.lt))
      have HL5 := Lib.hid (HL.out.conv (fun a c Z q => BytesX.later q kB))
      have hb5 := belStep hbel kB
      have HBX := Lib.hid (Blk.new wr [.int .i64 o.kind, .string o.name, .string o.dst, .slice o.ba o.Z.length o.bc] 49)
      clear kB hbel HO HL
      generalize wr.alloc (.cells #[.int .i64 o.kind, .string o.name, .string o.dst, .slice o.ba o.Z.length o.bc] 49) = W5 at *
      generalize wr.heap.size = xb at *
      have x0 := HBX.out.cell (j := 0) rfl
      have x1 := HBX.out.cell (j := 1) rfl
      have x2 := HBX.out.cell (j := 2) rfl
      have x3 := HBX.out.cell (j := 3) rfl
      have CA := Lib.hid (dk_apply mb n D _ _ o W5 HO5.out (by omega) HL5.out (HZO.out.1.later hb5) HZO.out.2.1 HZO.out.2.2.1)
      go_upto_region 6 with (go_at_call 37; (with_reducible refine (CA.out).mono ?_); rintro e w6 ⟨rfl, D6, ho_, hl_, ha_⟩; have HO := Lib.hid ho_; have HL := Lib.hid hl_; have HA := Lib.hid ha_; clear ho_ hl_ ha_)
      have hbel := hb5.trans (HA.out.below (B := w.heap.size) (fun b hb => by simp only [List.mem_singleton] at hb; subst hb; exact HGE.out) hb5.size)
      clear x0 x1 x2 x3 CA HBX HO5 HL5 HA hb5
      go_wp2
      go_roundw
      case rel => exact ⟨k + 1, n + 1, D6, by omega, by push_cast; rfl, by omega, HO, Lib.hid (by rw [HN.out]; exact HL.out), hbel⟩
      case measure => simp [intOf] <;> omega
    · obtain rfl : k = T.length := by omega
      have hd : decide ((T.length : Int) < (T.length : Int)) = false := decide_eq_false (by omega)
      rw [List.take_length] at HL
      go_wp2
      go_ret
      exact ⟨mb, n, D, rfl, by rw [← HTL.out]; omega, HO.out, by unfold DiskV.look; rw [← HT.out]; exact HL.out, HGE.out, hbel⟩
end Go.Proofs.Ytcbblgeleboggaa
