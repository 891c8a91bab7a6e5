
/- CkptKeeps holds for every slice of bytes. No conditions. -/
import Derived.Test.YtcbblgeleboggaaCk8
import Derived.BigQuiet
namespace Go.Proofs.Ytcbblgeleboggaa.ckptKeeps
open Go.ChangeShapes Go.WideShapes Go.ChangeAt Go.RowKit
open Go.ChangeMaps (open_string shut_string)
set_option linter.unusedVariables false
open Go.RowKit Go.Sort Go.Maps
set_option linter.unusedSimpArgs false
set_option maxRecDepth 100000 in
set_option maxHeartbeats 16000000 in
theorem walk (a : Option Addr) (len cap : Nat) (l : List Int) (w : World) (hl : Ints .u8 w a len cap l) :
    Calls Try.prog 6 #[.slice a len cap] w fun e w' => e = .returned (.bool true) ∧ Below w.heap.size w w' := by
  have hw : Below w.heap.size w w := Below.refl _ _
  have hbel := hw
  obtain ⟨hl1, hl2, hl3⟩ := hl.bounds
  have HBY := Lib.hid (bytes_of hl)
  have HL := Lib.hid hl
  clear hl
  subst hl1
  by_cases h300 : 300 < l.length
  · go_enter Try.func6, Try.ntmps6
    go_wp2_with (first | (go_at_call 8; (with_reducible refine (awake_11 _).mono ?_); rintro e wa ⟨rfl, ha⟩; have hbel := belStep hbel ha; clear ha))
    go_ret
    exact ⟨rfl, hbel⟩
  · go_enter Try.func6, Try.ntmps6
    go_upto_region 6 with (first | (go_at_call 8; (with_reducible refine (awake_11 _).mono ?_); rintro e wa ⟨rfl, ha⟩; have hbel := belStep hbel ha; clear ha) | (go_at_call 10; (with_reducible refine (dl_New w.heap.size [] _ (fun b hb => absurd hb List.not_mem_nil) hbel.size).mono ?_); rintro e w1 ⟨M, rfl, hd_, hb_⟩; have HD := Lib.hid (show DKv w.heap.size w1 M [] (ckD 0 none none) from hd_); have HB1 := Lib.hid (hbel.trans hb_); clear hd_ hb_))
    clear hbel hw
    have C1 := Lib.hid (ck_Open_none w.heap.size M [] 0 none w1 HD.out (fun b hb => absurd hb List.not_mem_nil) HB1.out.size (by omega))
    go_upto_region 9 with (go_at_call 11; (with_reducible refine (C1.out).mono ?_); rintro e w2 ⟨N, rfl, hs_, hn_, ⟨⟨c1, hc1, hd_⟩, hb_, -⟩⟩; have HS := Lib.hid hs_; have HD2 := Lib.hid hd_; have HB2 := Lib.hid (HB1.out.trans hb_); have hN : w.heap.size ≤ N := Nat.le_trans HB1.out.size hn_; clear hs_ hd_ hb_ hn_ C1 HD HB1)
    go_upto_region 10 with (at_builtin; refine wpList_app_ints rfl _ _ 29 rfl w2.heap.size 5 .u8 1 Try.underlying29 info_u8 _ _ rfl (own_new w2 w2.heap.size 5 .u8 (Nat.le_refl _)) _ l.length cap l rfl (HL.out.later (belAlloc HB2.out _)) ?c1 ?c2 ?c3 ?_; rotate_right; (intro vo w3 ho_ hb_ hg_))
    case c1 => simp only [maxLen, List.length_nil]; omega
    case c2 => simp only [List.length_nil]; omega
    case c3 => simp
    try rw [List.nil_append] at ho_
    obtain ⟨aw, cw, rfl, hiw⟩ := ints_of_own ho_ (fun m hm => wf8 m (HBY.out m hm))
    have kb : Below w2.heap.size w2 w3 := (belAlloc (Below.refl _ _) _ : Below w2.heap.size w2 (w2.alloc _)).trans hb_
    obtain ⟨Z, hZ⟩ : ∃ Z, (Value.slice aw l.length cw).ownBlock.toList = Z := ⟨_, rfl⟩
    have hZm : ∀ b, (Value.slice aw l.length cw).ownBlock = some b → b ∈ Z := fun b e => by rw [← hZ]; exact mem_ownB.1 e
    have hZs : ∀ b ∈ Z, w2.heap.size ≤ b ∧ b < w3.heap.size := fun b hb => by rw [← hZ] at hb; have h1 := own_type (show OwnR w3 w2.heap.size 5 1 (.slice aw l.length cw) l.length (l.map (Value.int .u8)) from ho_) (mem_ownB.2 hb); exact ⟨h1.1, h1.2.1⟩
    have hNl := Blk.lt HS.out
    have hs23 : w2.heap.size ≤ w3.heap.size := kb.size
    have hlt3 : ∀ b ∈ N :: Z, b < w3.heap.size := fun b hb => by rcases List.mem_cons.1 hb with rfl | q; exact Nat.lt_of_lt_of_le hNl hs23; exact (hZs b q).2
    have hd3 : DKv w.heap.size w3 M (N :: Z) (ckD c1 none none) := (HD2.out.more (Y := N :: Z) (fun b hb => by rcases List.mem_cons.1 hb with rfl | q; exact .inl (List.mem_cons_self); exact .inr (hZs b q).1)).later kb
    have hNZ : N ∉ Z := fun q => by have h1 := (hZs N q).1; omega
    have HB3 := Lib.hid (belStep HB2.out kb)
    have HO3 := Lib.hid ho_
    have CS := Lib.hid (ck_Save w.heap.size N M (N :: Z) Z c1 none w3 0 hd3 (Blk.later HS.out kb) hlt3 HB3.out.size List.mem_cons_self hN (fun b hb => List.mem_cons_of_mem _ hb) hNZ (by omega) aw l.length cw l hiw (by omega) (by omega))
    have HZm := Lib.hid hZm
    have HZs := Lib.hid hZs
    have HLT := Lib.hid hlt3
    have hB23 : w.heap.size ≤ w2.heap.size := HB2.out.size
    clear ho_ hiw hb_ hg_ kb hZ hZm hZs hlt3 hd3 HD2 HS HB2
    go_upto_region 11 with (go_at_call 12; (with_reducible refine (CS.out).mono ?_); rintro e w4 ⟨rfl, hd_, -, hb_, hf_⟩; have HD4 := Lib.hid hd_; have HB4 := Lib.hid (HB3.out.trans hb_); have HO4 := Lib.hid (show OwnI w4 w2.heap.size 5 .u8 (.slice aw l.length cw) l from hf_.ownV HO3.out HZm.out); have hs34 := hf_.size; clear hd_ hb_ hf_ CS HO3)
    obtain ⟨aq, cq, eq, hi4⟩ := ints_of_own HO4.out (fun m hm => wf8 m (HBY.out m hm))
    cases eq
    have CSm := Lib.hid (same_self aw l.length cw l a cap w4 hi4 (HL.out.later HB4.out))
    clear hi4
    go_upto_region 12 with (go_at_call 15; (with_reducible refine (CSm.out).mono ?_); rintro e wx ⟨rfl, hz9⟩; subst hz9)
    go_wp2
    go_loopw [10] (fun i wr => ∃ k : Nat, k ≤ l.length ∧ i = .int .i64 k ∧ ∃ l2, OwnI wr w2.heap.size 5 .u8 (.slice aw l.length cw) l2 ∧ l2.length = l.length ∧ DKv w.heap.size wr M (N :: Z) (ckD (c1 + 2) (some (frameL (0 + 1) l)) none) ∧ w3.heap.size ≤ wr.heap.size ∧ Below w.heap.size w wr) (fun i _ => l.length - (intOf i).toNat)
    case atStart => exact ⟨0, Nat.zero_le _, rfl, l, HO4.out, rfl, HD4.out, hs34, HB4.out⟩
    case round =>
      clear HO4 HD4 HB4 hs34 CSm
      obtain ⟨k, hk, rfl, l2, hown, hl2, hd, hsz, hbr⟩ := hrel
      by_cases hlt : k < l.length
      · obtain ⟨g, rfl, hg1, hg2, hg3, hg4⟩ := hown.open hl2 (by omega)
        have x0 := hown.cellAt hl2.symm (i := k) (by omega)
        have f0 := hown.frozenAt hl2.symm (k)
        have HO := Lib.hid hown
        have HLl := Lib.hid hl2
        have HDr := Lib.hid hd
        obtain ⟨c, ec⟩ : ∃ c, el l2 (k) = c := ⟨_, rfl⟩
        rw [ec] at x0
        clear hown hl2 ec hd
        go_wp2
        go_roundw
        case rel =>
          have hA := (Apart.refl (N :: Z) wr).set ⟨g, k, none⟩ (.int .u8 (bits .xor .u8 c 255)) (List.mem_cons_of_mem _ (HZm.out g rfl))
          exact ⟨k + 1, by omega, by push_cast; rfl, _, HO.out.set HLl.out.symm _ _, by rw [List.length_set]; exact HLl.out, HDr.out.mine hA, Nat.le_trans hsz hA.size, hbr.setCell (by first | exact (Nat.le_trans hB23 hg1) | omega) _⟩
        case measure => simp [intOf] <;> omega
      · obtain rfl : k = l.length := by omega
        clear hown hl2
        have HDr := Lib.hid hd
        have HBr := Lib.hid hbr
        clear hd hbr
        have CO := Lib.hid (ck_Open_ok w.heap.size M (N :: Z) (c1 + 2) none wr (frameL (0 + 1) l) 1 l l.length ⟨rfl, by omega, by omega⟩ rfl HDr.out (fun b hb => Nat.lt_of_lt_of_le (HLT.out b hb) hsz) HBr.out.size (by omega))
        have hsr : w.heap.size ≤ wr.heap.size := HBr.out.size
        go_upto_region 17 with (go_at_call 11; (with_reducible refine (CO.out).mono ?_); rintro e w5 ⟨N2, g, c2, ax, cx, rfl, ha_, ⟨hq1, hq2, hq3⟩, ho_, hi_, hs_, hn_, hg_, ⟨⟨c3, hc3, hd_⟩, hb_, hf_⟩⟩; have HA := Lib.hid ha_; have HO5 := Lib.hid ho_; have HI5 := Lib.hid hi_; have HD5 := Lib.hid hd_; have HB5 := Lib.hid (HBr.out.trans hb_); have hN2 := Blk.lt hs_; have hs5 := hf_.size; clear ha_ ho_ hi_ hd_ hb_ hf_ hs_ CO HDr HBr)
        have CSm := Lib.hid (same_self ax l.length cx l a cap w5 HI5.out (HL.out.later HB5.out))
        have HLT5 := Lib.hid (show ∀ b ∈ N2 :: g :: N :: Z, b < w5.heap.size from fun b hb => by rcases List.mem_cons.1 hb with rfl | q; exact hN2; rcases List.mem_cons.1 q with rfl | q; exact hg_; exact Nat.lt_of_lt_of_le (HLT.out b q) (Nat.le_trans hsz hs5))
        go_upto_region 18 with (go_at_call 15; (with_reducible refine (CSm.out).mono ?_); rintro e wx ⟨rfl, hz9⟩; subst hz9)
        go_wp2
        have HLh := Lib.hid (show (headL 1 l).length = l.length + 12 from headL_len _ _)
        go_loopw [14] (fun i ws => ∃ k : Nat, k ≤ l.length ∧ i = .int .i64 k ∧ ∃ l2, OwnI ws wr.heap.size 5 .u8 (.slice (some ⟨g, 0, none⟩) (l.length + 12) c2) l2 ∧ l2.length = l.length + 12 ∧ DKv w.heap.size ws M (N2 :: g :: N :: Z) (ckD c3 (some (frameL (0 + 1) l)) none) ∧ w5.heap.size ≤ ws.heap.size ∧ Below w.heap.size w ws) (fun i _ => l.length - (intOf i).toNat)
        case atStart => exact ⟨0, Nat.zero_le _, rfl, _, HO5.out, HLh.out, HD5.out, Nat.le_refl _, HB5.out⟩
        case round =>
          clear HO5 HD5 HB5 HI5 CSm
          obtain ⟨k, hk, rfl, l2, hown, hl2, hd, hsz, hbr⟩ := hrel
          by_cases hlt : k < l.length
          · obtain rfl := HA.out (by omega)
            have x0 := hown.cellAt hl2.symm (i := 12 + k) (by omega)
            have f0 := hown.frozenAt hl2.symm (12 + k)
            have HO := Lib.hid hown
            have HLl := Lib.hid hl2
            have HDr := Lib.hid hd
            obtain ⟨c, ec⟩ : ∃ c, el l2 (12 + k) = c := ⟨_, rfl⟩
            rw [ec] at x0
            clear hown hl2 ec hd
            go_wp2
            go_roundw
            case rel =>
              have hA := (Apart.refl (N2 :: g :: N :: Z) wr).set ⟨g, 12 + k, none⟩ (.int .u8 (bits .xor .u8 c 255)) (List.mem_cons_of_mem _ List.mem_cons_self)
              exact ⟨k + 1, by omega, by push_cast; rfl, _, HO.out.set HLl.out.symm _ _, by rw [List.length_set]; exact HLl.out, HDr.out.mine hA, Nat.le_trans hsz hA.size, hbr.setCell (by first | exact (Nat.le_trans hsr hq1) | omega) _⟩
            case measure => simp [intOf] <;> omega
          · obtain rfl : k = l.length := by omega
            clear hown hl2
            have HDr := Lib.hid hd
            have HBr := Lib.hid hbr
            clear hd hbr
            have CO := Lib.hid (ck_Open_ok w.heap.size M (N2 :: g :: N :: Z) c3 none wr (frameL (0 + 1) l) 1 l l.length ⟨rfl, by omega, by omega⟩ rfl HDr.out (fun b hb => Nat.lt_of_lt_of_le (HLT5.out b hb) hsz) HBr.out.size (by omega))
            go_upto_region 23 with (go_at_call 11; (with_reducible refine (CO.out).mono ?_); rintro e w6 ⟨N3, g3, c4, ay, cy, rfl, -, -, -, hi_, -, -, -, ⟨-, hb_, -⟩⟩; have HI6 := Lib.hid hi_; have HB6 := Lib.hid (HBr.out.trans hb_); clear hi_ hb_ CO HDr HBr)
            have CSm := Lib.hid (same_self ay l.length cy l a cap w6 HI6.out (HL.out.later HB6.out))
            go_wp2_with (go_at_call 15; (with_reducible refine (CSm.out).mono ?_); rintro e wx ⟨rfl, hz9⟩; subst hz9)
            go_ret
            exact ⟨by first | rfl | simp, HB6.out⟩

set_option maxRecDepth 100000 in
theorem lifted (os : Os) (started : os.Started) (H : Type) (enc : TypeId × Value → H) :
    ReturnsInHanded {} Try.checked os 6 .any (Rows.ckptKeepsSpec.pre6 enc Try.prog Try.f6 Rows.ckptKeepsRow.domain false) (Rows.ckptKeepsSpec.post enc Try.prog Try.f6 false true false false) := by
  refine returnsInHanded_of_change (C := Try.checked) own started (by kernel_rfl) Try.func6
    (ChangeSpec.witness6 (enc := enc) (C := Try.checked) false ⟨#[], #[.slice none 0 0], []⟩ 8 (by kernel_rfl) (by kernel_rfl) (by kernel_rfl) (by kernel_rfl)) ?_
  intro W base args ds gs before hval0 hW hcnd _
  have hval : ∀ (j : Nat) t v, Try.f6.params[j]? = some t → args[j]? = some v → Value.okWide Try.prog W .any base t v := hval0
  have hW' := hW
  obtain ⟨p, q, hA0, hV, rfl, hfz, hnd⟩ := hW
  have hA : DataW.TrodAll enc Try.prog W 0 (fun _ => true) true Try.f6.params.toList args.toList ds p := hA0
  rw [Try.params6] at hA hval
  obtain ⟨v0, vs0, d0, ds0, p0, q0, hargs, rfl, rfl, h0, r0⟩ := trodAll_cons hA
  obtain ⟨rfl, rfl, rfl⟩ := trodAll_nil r0
  obtain rfl : args = #[v0] := by cases args; simp_all
  obtain ⟨rfl, rfl⟩ := trodVars_none hV
  have k0 := h0
  have lt0 : ∀ x ∈ p0, x.block < W.heap.size := by obtain ⟨m, hm⟩ := k0; exact DataW.trod_lt m _ _ _ hm
  have o0 : Value.okWide Try.prog W .any base 29 v0 := hval 0 29 v0 rfl rfl
  obtain ⟨a0, len0, cap0, rfl⟩ := okWide_slice Try.underlying29 o0
  obtain ⟨z0, w0⟩ : ∃ zs, Ints .u8 W a0 len0 cap0 zs := ints_of_trod Try.underlying29 Try.underlying5 (by kernel_rfl) h0
  clear hA0 hval0
  refine (walk a0 len0 cap0 z0 W w0).mono fun e W' ⟨he, bel⟩ => ?_
  subst he
  exact ⟨_, rfl, _, _, _, [], _, [], hW', trodAll_mk1 (shut_bool Try.underlying4 _), (trodAll_cons_mk (Below.trod laidOut (by kernel_rfl) (of_decide_eq_true (by kernel_rfl)) k0 bel lt0) trodAll_mk0), rfl, bel.frame _, fun h => by cases h⟩

theorem over : Rows.ckptKeepsRow.holds Try.pinned (OpenSpec.ofChange Rows.ckptKeepsSpec) :=
  OpenClaim.holds_of_wide 6 Try.f6 rfl rfl rfl rfl rfl rfl rfl ⟨rfl, rfl, rfl, rfl, rfl⟩ rfl rfl rfl rfl rfl (by kernel_rfl) Try.func6 (by kernel_rfl)
    (of_decide_eq_true (by kernel_rfl)) (by unfold Func.isWrapper; first | (rw [if_pos (by decide +kernel)]; kernel_rfl) | (rw [if_neg (by decide +kernel)]; exact ⟨rfl, rfl⟩))
    (fun os started H enc _ => lifted os started H enc)

/-- The statement. -/
theorem proved : Rows.CkptKeepsSaid := over
#print axioms proved

end Go.Proofs.Ytcbblgeleboggaa.ckptKeeps
