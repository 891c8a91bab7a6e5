
/- Stage 10: disk.Copy: contract. -/
import Derived.Test.YtcnjcldfbidkmaaDkP
import Derived.Maps.RangeWalk
import Derived.Laws.IdiomRangeMap
import Derived.Sort.KeysCollected
namespace Go.Proofs.Ytcnjcldfbidkmaa
open Go.RowKit Go.Sort Go.Maps Go.WideMaps
set_option linter.unusedVariables false
set_option linter.unusedSimpArgs false
theorem key_str {s : ByteArray} {kl : Lit} (h : keyOf Try.prog 9 (.string s) = some kl) : kl = keyD s ∧ s.size ≤ maxLen := by
  obtain ⟨x, hx, hk2, hk3⟩ := Maps.keyOf_str Try.underlying9 h
  have e : s = ⟨x.toArray⟩ := by simpa [encStr] using hx
  subst e
  exact ⟨hk2, hk3⟩
theorem bel_grown {u w : World} {row : Option Nat} {B : Nat} (h : u.grownBy w row) (hr : ∀ j, row = some j → B ≤ j) (hB : B ≤ u.heap.size) : Below B u w :=
  ⟨h.os, h.tape, h.output, h.size, fun i hi => h.block i (by omega) (fun e => by have := hr i e.symm; omega)⟩
theorem bel_none {u w : World} (h : Below u.heap.size u w) : u.grownBy w none := ⟨h.os, h.tape, h.output, h.size, fun i hi _ => h.block i hi⟩
theorem ownsMap_tight {w : World} {b n : Nat} {D : DataW Value} (h : w.ownsMap Try.prog 9 RH b n D) : w.ownsMap Try.prog 9 RH b (Maps.size D) D := by
  obtain ⟨es, clock, hb, Ft, hs, rfl⟩ := h
  exact ⟨es, clock, hb, Ft, by rw [Maps.size_eq, length_sorted]; simp, rfl⟩
theorem put_self {L : List FileM} (h : SortedF L) {s : ByteArray} {Z : List Int} (hg : getF L s = some Z) : putF L s Z = L := by
  refine files_ext (sorted_putF h _ _) h (fun t => ?_)
  rw [find_putF]
  split
  · rename_i e
    rw [← ba_ext (eq_of_beq e), hg]
  · rfl
section
variable {P : Program} {w : World} {o : Oper} {a : Act} {K : Act → World → Prop} {Q : Exit → Act → World → Prop} {E : Prop}
theorem op_mapM {ops : Array Oper} {tm : Array Value} (hg : o.guard = none) (m x v : Operand) (t : TypeId) (hop : o.op = Op.mapUpdate t m x v) (k e : TypeId) (Kd : Keyed P k) (ht : P.underlying t = some (.map k e)) (b n : Nat) (D : DataW Value)
    (hm : a.eval m = .map (some b)) (hown : w.ownsMap P k RH b n D) (hn : n < maxLen) (key val : Value) (kl : Lit) (hx : a.eval x = key) (hv : a.eval v = val) (hkey : keyOf P k key = some kl)
    (h : ∀ w', w'.ownsMap P k RH b (n + 1) (D.put kl (.held val)) → w.mapTurned w' b → K (a.put o.dst undef) w') : if Region.wanted o (yielded ops tm) = true then Oper.wp P o a w K Q else E := by
  have hw : Region.wanted o (yielded ops tm) = true := by simp [Region.wanted, hg]
  rw [if_pos hw]
  obtain ⟨w', hrun, r1, r2⟩ := hown.store Kd ht hn hkey (show RH val = some (.held val, []) from rfl)
  unfold Oper.wp
  simp [execOp, hop, hm, hx, hv, hrun, Result.andThen]
  exact h w' r1 r2
end
set_option maxRecDepth 100000 in
set_option maxHeartbeats 32000000 in
theorem dk_Copy (M : Nat) (X F : List Nat) (d : DiskV) (w : World) (h : DAt w M X F d) (hX : ∀ b ∈ X, b < w.heap.size) (hc : d.cap + d.done.length ≤ 100000) (hs : SortedF d.files) (hd : ∀ o ∈ d.done, rightM o = true ∧ ownM o = o) :
    Calls Try.prog 39 #[.pointer (some ⟨M, 0, none⟩)] w fun e w' => ∃ N G, e = .returned (.pointer (some ⟨N, 0, none⟩)) ∧ w.heap.size ≤ N ∧ DAt w' N (X ++ F) G ⟨d.files, d.done, d.cap⟩ ∧ Below w.heap.size w w' := by
  have HX := Lib.hid hX
  have HS := Lib.hid hs
  have HG := Lib.hid hd
  have HLTF := Lib.hid h.lt
  have CF := Lib.hid (dk_files M X F d w h)
  obtain ⟨p, v, T, rfl, hb, hp, ho, hT, hz, _⟩ := h
  obtain ⟨oa, ocp, rfl, hr⟩ := rowR_of_own ho
  have hbr : T.length ≤ ocp ∧ ocp ≤ 9223372036854775807 := by obtain ⟨_, h1, h2, _⟩ := hr; unfold maxLen at h2; exact ⟨h1, h2⟩
  obtain ⟨hbr1, hbr2⟩ := hbr
  have HXF := Lib.hid (show ∀ b ∈ X ++ footD M (.slice oa T.length ocp), b < w.heap.size from fun b hb2 => (List.mem_append.1 hb2).elim (hX b) (fun z => (HLTF.out b z).2))
  obtain ⟨XS, hXS⟩ : ∃ Y, X ++ footD M (.slice oa T.length ocp) = Y := ⟨_, rfl⟩
  rw [hXS] at CF hp hz HXF
  rw [hXS]
  clear hXS
  have HR := Lib.hid hr
  have HZ := Lib.hid hz
  have HT := Lib.hid hT
  have hTl : T.length = d.done.length := by rw [← hT, List.length_map]
  have HTL := Lib.hid hTl
  have hTn : T.length ≤ 100000 := by omega
  have hcap : d.cap ≤ 100000 := by omega
  have HBM := Lib.hid hb
  have HPM := Lib.hid hp
  clear ho hr hz hT hTl hX hs hd HLTF hp hb
  have hbel : Below w.heap.size w w := Below.refl _ _
  go_enter Try.func39, Try.ntmps39
  go_upto_region 2 with (go_at_call 77; (with_reducible refine (CF.out).mono ?_); rintro e w1 ⟨mb, n0, D0, rfl, hn0, ho_, hl_, hg_, hb_⟩; have HO0 := Lib.hid ho_; have HL0 := Lib.hid hl_; have HN0 := Lib.hid hn0; have hbz := belStep hbel hb_; clear hbel; have HB1 := Lib.hid hbz; have HGE := Lib.hid hg_; clear ho_ hl_ hb_ hbz hg_ hn0)
  clear CF
  have kN := belAlloc (Below.refl w1.heap.size w1) (.cells #[.map (some mb), .slice none 0 0] 137)
  have HNB2 := Lib.hid (Blk.new w1 [.map (some mb), .slice none 0 0] 137)
  have HO2 := Lib.hid (ownsMap_same HO0.out (kN.block mb HO0.out.lt))
  have HMN := Lib.hid (show mb < w1.heap.size from HO0.out.lt)
  have HB2 := Lib.hid (belStep HB1.out kN)
  have HNG := Lib.hid HB1.out.size
  have HL2 := Lib.hid (HL0.out.conv (Y := XS ++ footD w1.heap.size (.slice none 0 0)) (fun a c Z q => BytesX.later (q.more (fun b hb => (List.mem_append.1 hb).imp id (fun z => by
                              rcases footD_mem.1 z with r | r
                              · omega
                              · cases r))) kN))
  have HW2 := Lib.hid (show (w1.alloc (.cells #[.map (some mb), .slice none 0 0] 137)).heap.size = w1.heap.size + 1 by simp)
  clear kN HL0 HO0 HB1
  generalize w1.alloc (.cells #[.map (some mb), .slice none 0 0] 137) = W2 at *
  generalize w1.heap.size = N at *
  have HMX := Lib.hid (show mb ∉ XS ++ footD N (.slice none 0 0) from fun q => by
                              rcases List.mem_append.1 q with r | r
                              · have h1 := HXF.out mb r; have h2 := HGE.out; omega
                              · rcases footD_mem.1 r with r | r
                                · have h1 := HMN.out; omega
                                · cases r)
  have HSZ := Lib.hid (show Maps.size D0 ≤ d.cap from Nat.le_trans HO2.out.size_le HN0.out)
  replace HO2 := Lib.hid (ownsMap_tight HO2.out)
  clear HN0
  have m0 := (HBM.out.later HB2.out).cell (j := 0) rfl
  rcases HPM.out with ⟨rfl, hfn⟩ | ⟨pm, np, Dp, rfl, hnp, hm, hlk, hmX⟩
  · have hrg := run_range_nilMap (P := Try.prog) W2 135 9 68 Try.underlying135
    have hnx : ∀ ty, (Instr.next (.pointer (some ⟨W2.heap.size, 0, none⟩)) false ty).run Try.prog (W2.alloc (.mapIter none 0 #[] 0)) = _ := fun ty => run_next_nilMap W2 ty 0 0 #[]
    go_upto_region 3 with fail
    refine wp_loop_rounds 1 ?_
    rw [rounds_succ]
    go_upto_region 6 with fail
    have kI := belAlloc (Below.refl W2.heap.size W2) (.mapIter none 0 #[] 0)
    have HO := Lib.hid (ownsMap_same HO2.out (kI.block mb HO2.out.lt))
    have HL := Lib.hid (HL2.out.conv (fun a c Z q => BytesX.later q kI))
    have HNB := Lib.hid (HNB2.out.later kI)
    have HB := Lib.hid (belStep HB2.out kI)
    clear kI HO2 HL2 HNB2 HB2 hrg hnx m0 HW2
    generalize W2.alloc (.mapIter none 0 #[] 0) = W4 at *
    obtain ⟨D, hD⟩ : ∃ D, D0 = D := ⟨_, rfl⟩
    subst hD
    have hd0 : DAt W4 N XS (footD N (.slice none 0 0)) ⟨d.files, d.done.take 0, d.cap⟩ := ⟨some mb, .slice none 0 0, [], rfl, HNB.out, .inr ⟨mb, Maps.size D0, D0, rfl, HSZ.out, HO.out, HL.out, HMX.out⟩, OwnR.nil _ _ _ _, rfl, (fun o ho => absurd ho List.not_mem_nil), (fun b hb hF => by
                              rcases footD_mem.1 hF with r | r
                              · have h1 := HXF.out b hb; have h2 := HNG.out; omega
                              · cases r)⟩
    have HD0 := Lib.hid (⟨_, hd0⟩ : ∃ G, DAt W4 N XS G ⟨d.files, d.done.take 0, d.cap⟩)
    clear hd0 HO HL HNB HSZ
    have m1 := (HBM.out.later HB.out).cell (j := 1) rfl
    go_wp2
    clear m1
    go_loopw [36] (fun iv wr => ∃ k : Nat, k ≤ T.length ∧ iv = .int .i64 k ∧ Hid (∃ G, DAt wr N XS G ⟨d.files, d.done.take k, d.cap⟩) ∧ Below w.heap.size w wr) (fun iv _ => T.length - (intOf iv).toNat)
    case atStart => exact ⟨0, Nat.zero_le _, rfl, HD0, HB.out⟩
    case round =>
      clear HD0 HB
      obtain ⟨k, hk, rfl, HDN, hbel⟩ := hrel
      by_cases hlt : k < T.length
      · have hd : decide ((k : Int) < (T.length : Int)) = true := decide_eq_true (by omega)
        have hki : (k : Int) < (T.length : Int) := by omega
        have hk0 : (0 : Int) ≤ (k : Int) := by omega
        obtain ⟨o, ho⟩ : ∃ o, T[k]? = some o := ⟨T[k], List.getElem?_eq_getElem hlt⟩
        obtain ⟨bc, oc, ec, _, hcc⟩ := (HR.out).elem OpV.cells_len (by omega) ho
        subst ec
        have c0 := keep (hcc 0 _ rfl)
        have c1 := keep (hcc 1 _ rfl)
        have c2 := keep (hcc 2 _ rfl)
        have c3 := keep (hcc 3 _ rfl)
        rw [Nat.add_zero] at c0
        have HZO := Lib.hid (HZ.out o (List.mem_of_getElem? ho))
        have hok : d.done[k]? = some o.m := by rw [← HT.out, List.getElem?_map, ho]; rfl
        have HOK := Lib.hid (takeD_next hok)
        have HGO := Lib.hid (HG.out o.m (List.mem_of_getElem? hok))
        clear ho hcc hok
        obtain ⟨⟨⟨⟨_, hzb1, hzb2, _⟩, _⟩, _, hzl⟩, hs1, hs2, hs3⟩ := HZO.out
        unfold maxLen at hzb2
        have HS1 := Lib.hid hs1
        have HS2 := Lib.hid hs2
        have HS3 := Lib.hid hs3
        clear hs1 hs2 hs3
        go_upto_region 9 with fail
        clear c0 c1 c2 c3
        have kB := belAlloc (Below.refl wr.heap.size wr) (.cells #[.int .i64 o.kind, .string o.name, .string o.dst, .slice o.ba o.Z.length o.bc] 70)
        have HDN5 := Lib.hid (HDN.out.elim (fun G hG => (⟨G, hG.later kB⟩ : ∃ G, DAt (wr.alloc (.cells #[.int .i64 o.kind, .string o.name, .string o.dst, .slice o.ba o.Z.length o.bc] 70)) N XS G ⟨d.files, d.done.take k, d.cap⟩)))
        have hb5 := belStep hbel kB
        have HBX := Lib.hid (Blk.new wr [.int .i64 o.kind, .string o.name, .string o.dst, .slice o.ba o.Z.length o.bc] 70)
        clear kB hbel HDN
        generalize wr.alloc (.cells #[.int .i64 o.kind, .string o.name, .string o.dst, .slice o.ba o.Z.length o.bc] 70) = W5 at *
        generalize wr.heap.size = xb at *
        have x0 := HBX.out.cell (j := 0) rfl
        have x1 := HBX.out.cell (j := 1) rfl
        have x2 := HBX.out.cell (j := 2) rfl
        have x3 := HBX.out.cell (j := 3) rfl
        have HB5 := Lib.hid hb5
        have CO9 := Lib.hid (dk_own o W5 (HZO.out.1.1.later hb5) hzl HS1.out HS2.out HS3.out)
        rw [HGO.out.1] at CO9
        clear hb5 hzb1 hzb2
        go_upto_region 10 with (go_at_call 74; (with_reducible refine (CO9.out).mono ?_); rintro e w2 ⟨q, rfl, hq_, hsm_, hbx_, hb_⟩; have HQ := Lib.hid ((hq_ trivial).trans HGO.out.2); have HSM := Lib.hid hsm_; have HBXQ := Lib.hid hbx_; have HBw := Lib.hid hb_; clear hq_ hsm_ hbx_ hb_)
        have kQ := belAlloc (Below.refl w2.heap.size w2) (.cells #[.int .i64 q.kind, .string q.name, .string q.dst, .slice q.ba q.Z.length q.bc] 70)
        have HQB := Lib.hid (Blk.new w2 [.int .i64 q.kind, .string q.name, .string q.dst, .slice q.ba q.Z.length q.bc] 70)
        have HB3 := Lib.hid (belStep HBw.out kQ)
        have HQZ := Lib.hid (fun X (hX : ∀ b ∈ X, b < W5.heap.size) => (HBXQ.out X hX).later kQ)
        clear kQ x0 x1 x2 x3 HBX HBXQ CO9
        generalize w2.alloc (.cells #[.int .i64 q.kind, .string q.name, .string q.dst, .slice q.ba q.Z.length q.bc] 70) = W3 at *
        have hxb : W5.heap.size ≤ w2.heap.size := HBw.out.size
        have HXB := Lib.hid hxb
        clear hxb HBw
        generalize w2.heap.size = yb at *
        obtain ⟨GN, hGN⟩ := HDN5.out
        have HLT := Lib.hid hGN.lt
        have HD3 := Lib.hid (hGN.later HB3.out)
        clear hGN HDN5
        obtain ⟨pN, vN, TN, rfl, hb, hp, ho, hTN, hz, hXFN⟩ := HD3.out
        obtain ⟨na, nc, rfl, hr⟩ := rowR_of_own ho
        have hbrN : TN.length ≤ nc ∧ nc ≤ 9223372036854775807 := by obtain ⟨_, h1, h2, _⟩ := hr; unfold maxLen at h2; exact ⟨h1, h2⟩
        obtain ⟨hbrN1, hbrN2⟩ := hbrN
        have HM := Lib.hid hb
        have HON := Lib.hid ho
        have HPN := Lib.hid hp
        have HTN := Lib.hid hTN
        have HZT := Lib.hid hz
        have HXFN := Lib.hid hXFN
        have hTl1 : TN.length = (d.done.take k).length := by have h1 := congrArg List.length hTN; rw [List.length_map] at h1; exact h1
        rw [List.length_take] at hTl1
        have hTNl : TN.length ≤ 100000 := by omega
        clear hTl1
        have HML := Lib.hid hb.lt
        clear hb hp ho hTN hz hXFN hr
        refine wp_region_upc (S := fun u => Blk u N [.map pN, .slice na TN.length nc] 137 ∧ Blk u yb [.int .i64 q.kind, .string q.name, .string q.dst, .slice q.ba q.Z.length q.bc] 70) [10] (by kernel_rfl) (by exact ⟨HM.out.later (belDrew (Below.refl _ _)), HQB.out.later (belDrew (Below.refl _ _))⟩) (fun hHeld => ?_)
        refine UpC.take (i := 0) (oi := ?oi_uc1) (v := ?v_uc1) ?hi_uc1 (by kernel_rfl) ?hf_uc1 ?hr_uc1 (by kernel_rfl) ?hQ_uc1 (Or.inl ⟨?hw_uc1, ?hy_uc1⟩) (by assumption) ?rest_uc1
        case hi_uc1 => ((simp only [List.getElem?_toArray, List.getElem?_cons_succ, List.getElem?_cons_zero]); rfl)
        case hf_uc1 => kernel_rfl
        case hr_uc1 => kernel_rfl
        case hQ_uc1 => exact fun _ _ _ h => h
        case hw_uc1 => rfl
        case hy_uc1 => ((intro w hSw; (try dsimp only at hSw); go_simp); all_goals (with_reducible rfl))
        try simp only [Act.put, List.setIfInBounds_toArray, List.set_cons_zero, List.set_cons_succ]
        refine UpC.take (i := 1) (oi := ?oi_uc2) (v := ?v_uc2) ?hi_uc2 (by kernel_rfl) ?hf_uc2 ?hr_uc2 (by kernel_rfl) ?hQ_uc2 (Or.inl ⟨?hw_uc2, ?hy_uc2⟩) (by assumption) ?rest_uc2
        case hi_uc2 => ((simp only [List.getElem?_toArray, List.getElem?_cons_succ, List.getElem?_cons_zero]); rfl)
        case hf_uc2 => kernel_rfl
        case hr_uc2 => kernel_rfl
        case hQ_uc2 => exact fun _ _ _ h => h
        case hw_uc2 => rfl
        case hy_uc2 => ((intro w hSw; (try dsimp only at hSw); go_simp); all_goals (with_reducible rfl))
        try simp only [Act.put, List.setIfInBounds_toArray, List.set_cons_zero, List.set_cons_succ]
        refine UpC.take (i := 2) (oi := ?oi_uc3) (v := ?v_uc3) ?hi_uc3 (by kernel_rfl) ?hf_uc3 ?hr_uc3 (by kernel_rfl) ?hQ_uc3 (Or.inl ⟨?hw_uc3, ?hy_uc3⟩) (by assumption) ?rest_uc3
        case hi_uc3 => ((simp only [List.getElem?_toArray, List.getElem?_cons_succ, List.getElem?_cons_zero]); rfl)
        case hf_uc3 => kernel_rfl
        case hr_uc3 => kernel_rfl
        case hQ_uc3 => exact fun _ _ _ h => h
        case hw_uc3 => rfl
        case hy_uc3 => ((intro w hSw; (try dsimp only at hSw); go_simp); all_goals (with_reducible rfl))
        try simp only [Act.put, List.setIfInBounds_toArray, List.set_cons_zero, List.set_cons_succ]
        refine UpC.take (i := 3) (oi := ?oi_uc4) (v := ?v_uc4) ?hi_uc4 (by kernel_rfl) ?hf_uc4 ?hr_uc4 (by kernel_rfl) ?hQ_uc4 (Or.inl ⟨?hw_uc4, ?hy_uc4⟩) (by assumption) ?rest_uc4
        case hi_uc4 => ((simp only [List.getElem?_toArray, List.getElem?_cons_succ, List.getElem?_cons_zero]); rfl)
        case hf_uc4 => kernel_rfl
        case hr_uc4 => kernel_rfl
        case hQ_uc4 => exact fun _ _ _ h => h
        case hw_uc4 => rfl
        case hy_uc4 => ((intro w hSw; (try dsimp only at hSw); go_simp); all_goals (with_reducible rfl))
        try simp only [Act.put, List.setIfInBounds_toArray, List.set_cons_zero, List.set_cons_succ]
        refine UpC.take (i := 4) (oi := ?oi_uc5) (v := ?v_uc5) ?hi_uc5 (by kernel_rfl) ?hf_uc5 ?hr_uc5 (by kernel_rfl) ?hQ_uc5 (Or.inl ⟨?hw_uc5, ?hy_uc5⟩) (by assumption) ?rest_uc5
        case hi_uc5 => ((simp only [List.getElem?_toArray, List.getElem?_cons_succ, List.getElem?_cons_zero]); rfl)
        case hf_uc5 => kernel_rfl
        case hr_uc5 => kernel_rfl
        case hQ_uc5 => exact fun _ _ _ h => h
        case hw_uc5 => rfl
        case hy_uc5 => ((intro w hSw; (try dsimp only at hSw); (have m1 := hSw.1.cell (j := 1) rfl; have x0 := hSw.2.cell (j := 0) rfl; have x1 := hSw.2.cell (j := 1) rfl; have x2 := hSw.2.cell (j := 2) rfl; have x3 := hSw.2.cell (j := 3) rfl); go_simp); all_goals (with_reducible rfl))
        try simp only [Act.put, List.setIfInBounds_toArray, List.set_cons_zero, List.set_cons_succ]
        refine UpC.take (i := 5) (oi := ?oi_uc6) (v := ?v_uc6) ?hi_uc6 (by kernel_rfl) ?hf_uc6 ?hr_uc6 (by kernel_rfl) ?hQ_uc6 (Or.inl ⟨?hw_uc6, ?hy_uc6⟩) (by assumption) ?rest_uc6
        case hi_uc6 => ((simp only [List.getElem?_toArray, List.getElem?_cons_succ, List.getElem?_cons_zero]); rfl)
        case hf_uc6 => kernel_rfl
        case hr_uc6 => kernel_rfl
        case hQ_uc6 => exact fun _ _ _ h => h
        case hw_uc6 => rfl
        case hy_uc6 => ((intro w hSw; (try dsimp only at hSw); (have m1 := hSw.1.cell (j := 1) rfl; have x0 := hSw.2.cell (j := 0) rfl; have x1 := hSw.2.cell (j := 1) rfl; have x2 := hSw.2.cell (j := 2) rfl; have x3 := hSw.2.cell (j := 3) rfl); go_simp); all_goals (with_reducible rfl))
        try simp only [Act.put, List.setIfInBounds_toArray, List.set_cons_zero, List.set_cons_succ]
        refine UpC.one (i := 6) (o := ?o_uc7) (by kernel_rfl) ?hi_uc7 (fun K hK => ?rest_uc7)
        case hi_uc7 => ((simp only [List.getElem?_toArray, List.getElem?_cons_succ, List.getElem?_cons_zero]); rfl)
        go_simp
        have k6 : Below W3.heap.size W3 (W3.alloc (.cells #[.int .i64 q.kind, .string q.name, .string q.dst, .slice q.ba q.Z.length q.bc] 70)).drew := belDrew (belAlloc (Below.refl W3.heap.size W3) (.cells #[.int .i64 q.kind, .string q.name, .string q.dst, .slice q.ba q.Z.length q.bc] 70))
        have HRW := Lib.hid ((row_new W3 [.int .i64 q.kind, .string q.name, .string q.dst, .slice q.ba q.Z.length q.bc] 70 1 4 rfl (by unfold maxLen; omega)).later (belDrew (Below.refl _ _)))
        have HK6 := Lib.hid k6
        clear k6
        refine hK.out _ _ (fun _ _ => by exact ⟨HM.out.later HK6.out, HQB.out.later HK6.out⟩) (fun hHeld0 => ?_)
        replace hHeld := hHeld0 (by decide) hHeld
        clear hK K hHeld0
        try simp only [Act.put, List.setIfInBounds_toArray, List.set_cons_zero, List.set_cons_succ]
        have HO6 := Lib.hid (OwnR.later HON.out HK6.out)
        refine UpC.one (i := 7) (o := ?o_uc8) (by kernel_rfl) ?hi_uc8 (fun K hK => ?rest_uc8)
        case hi_uc8 => ((simp only [List.getElem?_toArray, List.getElem?_cons_succ, List.getElem?_cons_zero]); rfl)
        refine op_appM rfl _ _ 67 rfl N 70 _ 4 64 Try.underlying67 info_opI rfl (by decide) (.slice na TN.length nc) TN.length (TN.flatMap OpV.cells) (by rfl) HO6.out ⟨W3.heap.size, 0, none⟩ 1 1 [.int .i64 q.kind, .string q.name, .string q.dst, .slice q.ba q.Z.length q.bc] (by rfl) HRW.out (op_one q) (by unfold maxLen; omega) (by omega) (by have h1 := HML.out; have h2 := HK6.out.size; omega) ?_
        intro v7 w7 ho7 hg7 hm7
        obtain ⟨va, vc, rfl, _⟩ := rowR_of_own ho7
        have HM7 := Lib.hid ((HM.out.later HK6.out).grown hg7 (own_ne_blk HO6.out (HM.out.later HK6.out) (by decide)))
        have HQ7 := Lib.hid ((HQB.out.later HK6.out).grown hg7 (fun e9 => by have h1 := (HLT.out yb (footD_mem.2 (.inr e9))).2; have h2 := HXB.out; omega))
        refine hK.out _ _ (fun _ _ => by exact ⟨HM7.out, HQ7.out⟩) (fun hHeld0 => ?_)
        replace hHeld := hHeld0 (by decide) hHeld
        clear hK K hHeld0
        try simp only [Act.put, List.setIfInBounds_toArray, List.set_cons_zero, List.set_cons_succ]
        refine UpC.pure (i := 8) (oi := ?oi_uc9) (v := ?v_uc9) ?hi_uc9 (by kernel_rfl) ?hf_uc9 ?hr_uc9 ?hQ_uc9 (Or.inl ⟨?hw_uc9, ?hy_uc9⟩) ?rest_uc9
        case hi_uc9 => ((simp only [List.getElem?_toArray, List.getElem?_cons_succ, List.getElem?_cons_zero]); rfl)
        case hf_uc9 => kernel_rfl
        case hr_uc9 => kernel_rfl
        case hQ_uc9 => exact fun _ _ _ h => h
        case hw_uc9 => rfl
        case hy_uc9 => ((intro w hSw; (try dsimp only at hSw); go_simp); all_goals (with_reducible rfl))
        try simp only [Act.put, List.setIfInBounds_toArray, List.set_cons_zero, List.set_cons_succ]
        refine UpC.pure (i := 9) (oi := ?oi_uc10) (v := ?v_uc10) ?hi_uc10 (by kernel_rfl) ?hf_uc10 ?hr_uc10 ?hQ_uc10 (Or.inl ⟨?hw_uc10, ?hy_uc10⟩) ?rest_uc10
        case hi_uc10 => ((simp only [List.getElem?_toArray, List.getElem?_cons_succ, List.getElem?_cons_zero]); rfl)
        case hf_uc10 => kernel_rfl
        case hr_uc10 => kernel_rfl
        case hQ_uc10 => exact fun _ _ _ h => h
        case hw_uc10 => rfl
        case hy_uc10 => ((intro w hSw; (try dsimp only at hSw); go_simp); all_goals (with_reducible rfl))
        try simp only [Act.put, List.setIfInBounds_toArray, List.set_cons_zero, List.set_cons_succ]
        have m0 := HM7.out.cell (j := 0) rfl
        have m1 := HM7.out.cell (j := 1) rfl
        have mf := HM7.out.frozen
        refine UpC.one (i := 10) (o := ?o_uc11) (by kernel_rfl) ?hi_uc11 (fun K hK => ?rest_uc11)
        case hi_uc11 => ((simp only [List.getElem?_toArray, List.getElem?_cons_succ, List.getElem?_cons_zero]); rfl)
        go_simp
        refine hK.out _ _ (fun q => absurd q (by decide)) (fun _ => ?_)
        clear hK K
        try simp only [Act.put, List.setIfInBounds_toArray, List.set_cons_zero, List.set_cons_succ]
        refine UpC.done (by kernel_rfl) ?_ _
        have hDO := dat_do (q := q) HM.out HPN.out HON.out HTN.out HZT.out HXFN.out (fun b hb => Nat.lt_of_lt_of_le (HXF.out b hb) (Nat.le_trans HB5.out.size HB3.out.size)) HK6.out ho7 hg7 hm7 (HQZ.out _ (fun b hb => by
                              rcases List.mem_append.1 hb with z | z
                              · exact Nat.lt_of_lt_of_le (HXF.out b z) HB5.out.size
                              · exact (HLT.out b z).2)) HSM.out rfl
        have HB9 := Lib.hid ((belStep HB5.out HB3.out).trans (hDO.elim (fun G hG => hG.2.1.below (B := w.heap.size) (fun b hb => Nat.le_trans HNG.out (HLT.out b hb).1) (belStep HB5.out HB3.out).size)))
        have HDO := Lib.hid (hDO.elim (fun G hG => (⟨G, hG.1⟩ : ∃ G, DAt _ N XS G ⟨d.files, d.done.take k ++ [q.m], d.cap⟩)))
        rw [HQ.out, ← HOK.out] at HDO
        clear hDO ho7 hg7 hm7 m0 m1 mf
        generalize World.setCell _ _ _ = W9 at *
        go_wp2
        go_roundw
        case rel => exact ⟨k + 1, by omega, by push_cast; rfl, HDO, HB9.out⟩
        case measure => simp [intOf] <;> omega
      · obtain rfl : k = T.length := by omega
        have hd : decide ((T.length : Int) < (T.length : Int)) = false := decide_eq_false (by omega)
        have HE9 := Lib.hid (show d.done.take T.length = d.done by rw [HTL.out, List.take_length])
        rw [HE9.out] at HDN
        go_wp2
        go_ret
        exact ⟨N, HDN.out.elim (fun G hG => ⟨G, rfl, HNG.out, hG, hbel⟩)⟩
  · have HM := Lib.hid hm
    have HLK := Lib.hid hlk
    clear hm hlk hmX
    have HM2 := Lib.hid (ownsMap_same HM.out (HB2.out.block pm HM.out.lt))
    have HPL := Lib.hid HM.out.lt
    go_upto_region 3 with (at_range; refine wpList_range_own _ rfl _ 135 rfl 9 68 strs_keyedD Try.underlying135 RH pm np Dp rfl HM2.out ?_; intro w3 hrg0 hg0 hs0)
    try go_frame
    have k3 := bel_grown (B := W2.heap.size) hg0 (fun j e => by cases e) (Nat.le_refl _)
    have HO3 := Lib.hid (ownsMap_same HO2.out (k3.block mb HO2.out.lt))
    have HL3 := Lib.hid (HL2.out.conv (Y := ((XS ++ footD N (.slice none 0 0)) ++ [W2.heap.size])) (fun a c Z q => BytesX.later (q.more (fun b hb => (List.mem_append.1 hb).imp id (fun z => by simp only [List.mem_singleton] at z; omega))) k3))
    have HNB3 := Lib.hid (HNB2.out.later k3)
    have HB3 := Lib.hid (belStep HB2.out k3)
    have HW3 := Lib.hid k3.size
    have HRG0 := Lib.hid hrg0
    have HIT := Lib.hid (show W2.heap.size < w3.heap.size by omega)
    have HITN := Lib.hid (show N < W2.heap.size by have := HW2.out; omega)
    clear k3 HO2 HL2 HNB2 hrg0 hg0 hs0 HM2 HW2 m0
    have HITM := Lib.hid (show mb < W2.heap.size from Nat.lt_trans HMN.out HITN.out)
    have HITW := Lib.hid (show w.heap.size ≤ W2.heap.size from HB2.out.size)
    clear HB2 HW3
    generalize W2.heap.size = it at *
    go_loopw [4] (fun iv wr => ∃ (left : Lit → Bool) (cnt : Nat) (D : DataW Value), Hid (wr.ranges Try.prog 9 RH pm it np Dp left cnt) ∧ Hid (wr.ownsMap Try.prog 9 RH mb (Maps.size D) D) ∧ Hid (Maps.size D ≤ d.cap) ∧ Hid (Link ((XS ++ footD N (.slice none 0 0)) ++ [it]) wr D d.files) ∧ Hid (Blk wr N [.map (some mb), .slice none 0 0] 137) ∧ Hid (it < wr.heap.size) ∧ Below w.heap.size w wr) (fun _ wr => wr.rangeLeft pm it)
    case atStart => exact ⟨_, _, _, HRG0, HO3, HSZ, HL3, HNB3, HIT, HB3.out⟩
    case round =>
      clear HRG0 HO3 HSZ HL3 HNB3 HIT HB3
      obtain ⟨left, cnt, D, HRG, HO, HSZ, HL, HNB, HIT, hbel⟩ := hrel
      go_upto_region 4 with (at_next; refine wpList_next_ranges _ rfl _ rfl 9 strs_keyedD RH Value.string (fun v : Value => v) (fun key kl h => by obtain ⟨x, hx, _⟩ := Maps.keyOf_str Try.underlying9 h; exact ⟨⟨x.toArray⟩, hx⟩) (fun v y h => ⟨v, rfl⟩) pm it np Dp _ _ rfl HRG.out ?_ ?_)
      · intro hc0 hl0
        try go_frame
        have HB := Lib.hid hbel
        replace HL := Lib.hid (HL.out.conv (Y := XS ++ footD N (.slice none 0 0)) (fun a c Z q => q.more (fun b hb => .inl (List.mem_append_left _ hb))))
        clear hbel HRG
        go_upto_region 6 with fail
        have hd0 : DAt wr N XS (footD N (.slice none 0 0)) ⟨d.files, d.done.take 0, d.cap⟩ := ⟨some mb, .slice none 0 0, [], rfl, HNB.out, .inr ⟨mb, Maps.size D, D, rfl, HSZ.out, HO.out, HL.out, HMX.out⟩, OwnR.nil _ _ _ _, rfl, (fun o ho => absurd ho List.not_mem_nil), (fun b hb hF => by
                              rcases footD_mem.1 hF with r | r
                              · have h1 := HXF.out b hb; have h2 := HNG.out; omega
                              · cases r)⟩
        have HD0 := Lib.hid (⟨_, hd0⟩ : ∃ G, DAt wr N XS G ⟨d.files, d.done.take 0, d.cap⟩)
        clear hd0 HO HL HNB HSZ
        have m1 := (HBM.out.later HB.out).cell (j := 1) rfl
        go_wp2
        clear m1
        go_loopw [36] (fun iv wr => ∃ k : Nat, k ≤ T.length ∧ iv = .int .i64 k ∧ Hid (∃ G, DAt wr N XS G ⟨d.files, d.done.take k, d.cap⟩) ∧ Below w.heap.size w wr) (fun iv _ => T.length - (intOf iv).toNat)
        case atStart => exact ⟨0, Nat.zero_le _, rfl, HD0, HB.out⟩
        case round =>
          clear HD0 HB
          obtain ⟨k, hk, rfl, HDN, hbel⟩ := hrel
          by_cases hlt : k < T.length
          · have hd : decide ((k : Int) < (T.length : Int)) = true := decide_eq_true (by omega)
            have hki : (k : Int) < (T.length : Int) := by omega
            have hk0 : (0 : Int) ≤ (k : Int) := by omega
            obtain ⟨o, ho⟩ : ∃ o, T[k]? = some o := ⟨T[k], List.getElem?_eq_getElem hlt⟩
            obtain ⟨bc, oc, ec, _, hcc⟩ := (HR.out).elem OpV.cells_len (by omega) ho
            subst ec
            have c0 := keep (hcc 0 _ rfl)
            have c1 := keep (hcc 1 _ rfl)
            have c2 := keep (hcc 2 _ rfl)
            have c3 := keep (hcc 3 _ rfl)
            rw [Nat.add_zero] at c0
            have HZO := Lib.hid (HZ.out o (List.mem_of_getElem? ho))
            have hok : d.done[k]? = some o.m := by rw [← HT.out, List.getElem?_map, ho]; rfl
            have HOK := Lib.hid (takeD_next hok)
            have HGO := Lib.hid (HG.out o.m (List.mem_of_getElem? hok))
            clear ho hcc hok
            obtain ⟨⟨⟨⟨_, hzb1, hzb2, _⟩, _⟩, _, hzl⟩, hs1, hs2, hs3⟩ := HZO.out
            unfold maxLen at hzb2
            have HS1 := Lib.hid hs1
            have HS2 := Lib.hid hs2
            have HS3 := Lib.hid hs3
            clear hs1 hs2 hs3
            go_upto_region 9 with fail
            clear c0 c1 c2 c3
            have kB := belAlloc (Below.refl wr.heap.size wr) (.cells #[.int .i64 o.kind, .string o.name, .string o.dst, .slice o.ba o.Z.length o.bc] 70)
            have HDN5 := Lib.hid (HDN.out.elim (fun G hG => (⟨G, hG.later kB⟩ : ∃ G, DAt (wr.alloc (.cells #[.int .i64 o.kind, .string o.name, .string o.dst, .slice o.ba o.Z.length o.bc] 70)) N XS G ⟨d.files, d.done.take k, d.cap⟩)))
            have hb5 := belStep hbel kB
            have HBX := Lib.hid (Blk.new wr [.int .i64 o.kind, .string o.name, .string o.dst, .slice o.ba o.Z.length o.bc] 70)
            clear kB hbel HDN
            generalize wr.alloc (.cells #[.int .i64 o.kind, .string o.name, .string o.dst, .slice o.ba o.Z.length o.bc] 70) = W5 at *
            generalize wr.heap.size = xb at *
            have x0 := HBX.out.cell (j := 0) rfl
            have x1 := HBX.out.cell (j := 1) rfl
            have x2 := HBX.out.cell (j := 2) rfl
            have x3 := HBX.out.cell (j := 3) rfl
            have HB5 := Lib.hid hb5
            have CO9 := Lib.hid (dk_own o W5 (HZO.out.1.1.later hb5) hzl HS1.out HS2.out HS3.out)
            rw [HGO.out.1] at CO9
            clear hb5 hzb1 hzb2
            go_upto_region 10 with (go_at_call 74; (with_reducible refine (CO9.out).mono ?_); rintro e w2 ⟨q, rfl, hq_, hsm_, hbx_, hb_⟩; have HQ := Lib.hid ((hq_ trivial).trans HGO.out.2); have HSM := Lib.hid hsm_; have HBXQ := Lib.hid hbx_; have HBw := Lib.hid hb_; clear hq_ hsm_ hbx_ hb_)
            have kQ := belAlloc (Below.refl w2.heap.size w2) (.cells #[.int .i64 q.kind, .string q.name, .string q.dst, .slice q.ba q.Z.length q.bc] 70)
            have HQB := Lib.hid (Blk.new w2 [.int .i64 q.kind, .string q.name, .string q.dst, .slice q.ba q.Z.length q.bc] 70)
            have HB3 := Lib.hid (belStep HBw.out kQ)
            have HQZ := Lib.hid (fun X (hX : ∀ b ∈ X, b < W5.heap.size) => (HBXQ.out X hX).later kQ)
            clear kQ x0 x1 x2 x3 HBX HBXQ CO9
            generalize w2.alloc (.cells #[.int .i64 q.kind, .string q.name, .string q.dst, .slice q.ba q.Z.length q.bc] 70) = W3 at *
            have hxb : W5.heap.size ≤ w2.heap.size := HBw.out.size
            have HXB := Lib.hid hxb
            clear hxb HBw
            generalize w2.heap.size = yb at *
            obtain ⟨GN, hGN⟩ := HDN5.out
            have HLT := Lib.hid hGN.lt
            have HD3 := Lib.hid (hGN.later HB3.out)
            clear hGN HDN5
            obtain ⟨pN, vN, TN, rfl, hb, hp, ho, hTN, hz, hXFN⟩ := HD3.out
            obtain ⟨na, nc, rfl, hr⟩ := rowR_of_own ho
            have hbrN : TN.length ≤ nc ∧ nc ≤ 9223372036854775807 := by obtain ⟨_, h1, h2, _⟩ := hr; unfold maxLen at h2; exact ⟨h1, h2⟩
            obtain ⟨hbrN1, hbrN2⟩ := hbrN
            have HM := Lib.hid hb
            have HON := Lib.hid ho
            have HPN := Lib.hid hp
            have HTN := Lib.hid hTN
            have HZT := Lib.hid hz
            have HXFN := Lib.hid hXFN
            have hTl1 : TN.length = (d.done.take k).length := by have h1 := congrArg List.length hTN; rw [List.length_map] at h1; exact h1
            rw [List.length_take] at hTl1
            have hTNl : TN.length ≤ 100000 := by omega
            clear hTl1
            have HML := Lib.hid hb.lt
            clear hb hp ho hTN hz hXFN hr
            refine wp_region_upc (S := fun u => Blk u N [.map pN, .slice na TN.length nc] 137 ∧ Blk u yb [.int .i64 q.kind, .string q.name, .string q.dst, .slice q.ba q.Z.length q.bc] 70) [10] (by kernel_rfl) (by exact ⟨HM.out.later (belDrew (Below.refl _ _)), HQB.out.later (belDrew (Below.refl _ _))⟩) (fun hHeld => ?_)
            refine UpC.take (i := 0) (oi := ?oi_uc12) (v := ?v_uc12) ?hi_uc12 (by kernel_rfl) ?hf_uc12 ?hr_uc12 (by kernel_rfl) ?hQ_uc12 (Or.inl ⟨?hw_uc12, ?hy_uc12⟩) (by assumption) ?rest_uc12
            case hi_uc12 => ((simp only [List.getElem?_toArray, List.getElem?_cons_succ, List.getElem?_cons_zero]); rfl)
            case hf_uc12 => kernel_rfl
            case hr_uc12 => kernel_rfl
            case hQ_uc12 => exact fun _ _ _ h => h
            case hw_uc12 => rfl
            case hy_uc12 => ((intro w hSw; (try dsimp only at hSw); go_simp); all_goals (with_reducible rfl))
            try simp only [Act.put, List.setIfInBounds_toArray, List.set_cons_zero, List.set_cons_succ]
            refine UpC.take (i := 1) (oi := ?oi_uc13) (v := ?v_uc13) ?hi_uc13 (by kernel_rfl) ?hf_uc13 ?hr_uc13 (by kernel_rfl) ?hQ_uc13 (Or.inl ⟨?hw_uc13, ?hy_uc13⟩) (by assumption) ?rest_uc13
            case hi_uc13 => ((simp only [List.getElem?_toArray, List.getElem?_cons_succ, List.getElem?_cons_zero]); rfl)
            case hf_uc13 => kernel_rfl
            case hr_uc13 => kernel_rfl
            case hQ_uc13 => exact fun _ _ _ h => h
            case hw_uc13 => rfl
            case hy_uc13 => ((intro w hSw; (try dsimp only at hSw); go_simp); all_goals (with_reducible rfl))
            try simp only [Act.put, List.setIfInBounds_toArray, List.set_cons_zero, List.set_cons_succ]
            refine UpC.take (i := 2) (oi := ?oi_uc14) (v := ?v_uc14) ?hi_uc14 (by kernel_rfl) ?hf_uc14 ?hr_uc14 (by kernel_rfl) ?hQ_uc14 (Or.inl ⟨?hw_uc14, ?hy_uc14⟩) (by assumption) ?rest_uc14
            case hi_uc14 => ((simp only [List.getElem?_toArray, List.getElem?_cons_succ, List.getElem?_cons_zero]); rfl)
            case hf_uc14 => kernel_rfl
            case hr_uc14 => kernel_rfl
            case hQ_uc14 => exact fun _ _ _ h => h
            case hw_uc14 => rfl
            case hy_uc14 => ((intro w hSw; (try dsimp only at hSw); go_simp); all_goals (with_reducible rfl))
            try simp only [Act.put, List.setIfInBounds_toArray, List.set_cons_zero, List.set_cons_succ]
            refine UpC.take (i := 3) (oi := ?oi_uc15) (v := ?v_uc15) ?hi_uc15 (by kernel_rfl) ?hf_uc15 ?hr_uc15 (by kernel_rfl) ?hQ_uc15 (Or.inl ⟨?hw_uc15, ?hy_uc15⟩) (by assumption) ?rest_uc15
            case hi_uc15 => ((simp only [List.getElem?_toArray, List.getElem?_cons_succ, List.getElem?_cons_zero]); rfl)
            case hf_uc15 => kernel_rfl
            case hr_uc15 => kernel_rfl
            case hQ_uc15 => exact fun _ _ _ h => h
            case hw_uc15 => rfl
            case hy_uc15 => ((intro w hSw; (try dsimp only at hSw); go_simp); all_goals (with_reducible rfl))
            try simp only [Act.put, List.setIfInBounds_toArray, List.set_cons_zero, List.set_cons_succ]
            refine UpC.take (i := 4) (oi := ?oi_uc16) (v := ?v_uc16) ?hi_uc16 (by kernel_rfl) ?hf_uc16 ?hr_uc16 (by kernel_rfl) ?hQ_uc16 (Or.inl ⟨?hw_uc16, ?hy_uc16⟩) (by assumption) ?rest_uc16
            case hi_uc16 => ((simp only [List.getElem?_toArray, List.getElem?_cons_succ, List.getElem?_cons_zero]); rfl)
            case hf_uc16 => kernel_rfl
            case hr_uc16 => kernel_rfl
            case hQ_uc16 => exact fun _ _ _ h => h
            case hw_uc16 => rfl
            case hy_uc16 => ((intro w hSw; (try dsimp only at hSw); (have m1 := hSw.1.cell (j := 1) rfl; have x0 := hSw.2.cell (j := 0) rfl; have x1 := hSw.2.cell (j := 1) rfl; have x2 := hSw.2.cell (j := 2) rfl; have x3 := hSw.2.cell (j := 3) rfl); go_simp); all_goals (with_reducible rfl))
            try simp only [Act.put, List.setIfInBounds_toArray, List.set_cons_zero, List.set_cons_succ]
            refine UpC.take (i := 5) (oi := ?oi_uc17) (v := ?v_uc17) ?hi_uc17 (by kernel_rfl) ?hf_uc17 ?hr_uc17 (by kernel_rfl) ?hQ_uc17 (Or.inl ⟨?hw_uc17, ?hy_uc17⟩) (by assumption) ?rest_uc17
            case hi_uc17 => ((simp only [List.getElem?_toArray, List.getElem?_cons_succ, List.getElem?_cons_zero]); rfl)
            case hf_uc17 => kernel_rfl
            case hr_uc17 => kernel_rfl
            case hQ_uc17 => exact fun _ _ _ h => h
            case hw_uc17 => rfl
            case hy_uc17 => ((intro w hSw; (try dsimp only at hSw); (have m1 := hSw.1.cell (j := 1) rfl; have x0 := hSw.2.cell (j := 0) rfl; have x1 := hSw.2.cell (j := 1) rfl; have x2 := hSw.2.cell (j := 2) rfl; have x3 := hSw.2.cell (j := 3) rfl); go_simp); all_goals (with_reducible rfl))
            try simp only [Act.put, List.setIfInBounds_toArray, List.set_cons_zero, List.set_cons_succ]
            refine UpC.one (i := 6) (o := ?o_uc18) (by kernel_rfl) ?hi_uc18 (fun K hK => ?rest_uc18)
            case hi_uc18 => ((simp only [List.getElem?_toArray, List.getElem?_cons_succ, List.getElem?_cons_zero]); rfl)
            go_simp
            have k6 : Below W3.heap.size W3 (W3.alloc (.cells #[.int .i64 q.kind, .string q.name, .string q.dst, .slice q.ba q.Z.length q.bc] 70)).drew := belDrew (belAlloc (Below.refl W3.heap.size W3) (.cells #[.int .i64 q.kind, .string q.name, .string q.dst, .slice q.ba q.Z.length q.bc] 70))
            have HRW := Lib.hid ((row_new W3 [.int .i64 q.kind, .string q.name, .string q.dst, .slice q.ba q.Z.length q.bc] 70 1 4 rfl (by unfold maxLen; omega)).later (belDrew (Below.refl _ _)))
            have HK6 := Lib.hid k6
            clear k6
            refine hK.out _ _ (fun _ _ => by exact ⟨HM.out.later HK6.out, HQB.out.later HK6.out⟩) (fun hHeld0 => ?_)
            replace hHeld := hHeld0 (by decide) hHeld
            clear hK K hHeld0
            try simp only [Act.put, List.setIfInBounds_toArray, List.set_cons_zero, List.set_cons_succ]
            have HO6 := Lib.hid (OwnR.later HON.out HK6.out)
            refine UpC.one (i := 7) (o := ?o_uc19) (by kernel_rfl) ?hi_uc19 (fun K hK => ?rest_uc19)
            case hi_uc19 => ((simp only [List.getElem?_toArray, List.getElem?_cons_succ, List.getElem?_cons_zero]); rfl)
            refine op_appM rfl _ _ 67 rfl N 70 _ 4 64 Try.underlying67 info_opI rfl (by decide) (.slice na TN.length nc) TN.length (TN.flatMap OpV.cells) (by rfl) HO6.out ⟨W3.heap.size, 0, none⟩ 1 1 [.int .i64 q.kind, .string q.name, .string q.dst, .slice q.ba q.Z.length q.bc] (by rfl) HRW.out (op_one q) (by unfold maxLen; omega) (by omega) (by have h1 := HML.out; have h2 := HK6.out.size; omega) ?_
            intro v7 w7 ho7 hg7 hm7
            obtain ⟨va, vc, rfl, _⟩ := rowR_of_own ho7
            have HM7 := Lib.hid ((HM.out.later HK6.out).grown hg7 (own_ne_blk HO6.out (HM.out.later HK6.out) (by decide)))
            have HQ7 := Lib.hid ((HQB.out.later HK6.out).grown hg7 (fun e9 => by have h1 := (HLT.out yb (footD_mem.2 (.inr e9))).2; have h2 := HXB.out; omega))
            refine hK.out _ _ (fun _ _ => by exact ⟨HM7.out, HQ7.out⟩) (fun hHeld0 => ?_)
            replace hHeld := hHeld0 (by decide) hHeld
            clear hK K hHeld0
            try simp only [Act.put, List.setIfInBounds_toArray, List.set_cons_zero, List.set_cons_succ]
            refine UpC.pure (i := 8) (oi := ?oi_uc20) (v := ?v_uc20) ?hi_uc20 (by kernel_rfl) ?hf_uc20 ?hr_uc20 ?hQ_uc20 (Or.inl ⟨?hw_uc20, ?hy_uc20⟩) ?rest_uc20
            case hi_uc20 => ((simp only [List.getElem?_toArray, List.getElem?_cons_succ, List.getElem?_cons_zero]); rfl)
            case hf_uc20 => kernel_rfl
            case hr_uc20 => kernel_rfl
            case hQ_uc20 => exact fun _ _ _ h => h
            case hw_uc20 => rfl
            case hy_uc20 => ((intro w hSw; (try dsimp only at hSw); go_simp); all_goals (with_reducible rfl))
            try simp only [Act.put, List.setIfInBounds_toArray, List.set_cons_zero, List.set_cons_succ]
            refine UpC.pure (i := 9) (oi := ?oi_uc21) (v := ?v_uc21) ?hi_uc21 (by kernel_rfl) ?hf_uc21 ?hr_uc21 ?hQ_uc21 (Or.inl ⟨?hw_uc21, ?hy_uc21⟩) ?rest_uc21
            case hi_uc21 => ((simp only [List.getElem?_toArray, List.getElem?_cons_succ, List.getElem?_cons_zero]); rfl)
            case hf_uc21 => kernel_rfl
            case hr_uc21 => kernel_rfl
            case hQ_uc21 => exact fun _ _ _ h => h
            case hw_uc21 => rfl
            case hy_uc21 => ((intro w hSw; (try dsimp only at hSw); go_simp); all_goals (with_reducible rfl))
            try simp only [Act.put, List.setIfInBounds_toArray, List.set_cons_zero, List.set_cons_succ]
            have m0 := HM7.out.cell (j := 0) rfl
            have m1 := HM7.out.cell (j := 1) rfl
            have mf := HM7.out.frozen
            refine UpC.one (i := 10) (o := ?o_uc22) (by kernel_rfl) ?hi_uc22 (fun K hK => ?rest_uc22)
            case hi_uc22 => ((simp only [List.getElem?_toArray, List.getElem?_cons_succ, List.getElem?_cons_zero]); rfl)
            go_simp
            refine hK.out _ _ (fun q => absurd q (by decide)) (fun _ => ?_)
            clear hK K
            try simp only [Act.put, List.setIfInBounds_toArray, List.set_cons_zero, List.set_cons_succ]
            refine UpC.done (by kernel_rfl) ?_ _
            have hDO := dat_do (q := q) HM.out HPN.out HON.out HTN.out HZT.out HXFN.out (fun b hb => Nat.lt_of_lt_of_le (HXF.out b hb) (Nat.le_trans HB5.out.size HB3.out.size)) HK6.out ho7 hg7 hm7 (HQZ.out _ (fun b hb => by
                              rcases List.mem_append.1 hb with z | z
                              · exact Nat.lt_of_lt_of_le (HXF.out b z) HB5.out.size
                              · exact (HLT.out b z).2)) HSM.out rfl
            have HB9 := Lib.hid ((belStep HB5.out HB3.out).trans (hDO.elim (fun G hG => hG.2.1.below (B := w.heap.size) (fun b hb => Nat.le_trans HNG.out (HLT.out b hb).1) (belStep HB5.out HB3.out).size)))
            have HDO := Lib.hid (hDO.elim (fun G hG => (⟨G, hG.1⟩ : ∃ G, DAt _ N XS G ⟨d.files, d.done.take k ++ [q.m], d.cap⟩)))
            rw [HQ.out, ← HOK.out] at HDO
            clear hDO ho7 hg7 hm7 m0 m1 mf
            generalize World.setCell _ _ _ = W9 at *
            go_wp2
            go_roundw
            case rel => exact ⟨k + 1, by omega, by push_cast; rfl, HDO, HB9.out⟩
            case measure => simp [intOf] <;> omega
          · obtain rfl : k = T.length := by omega
            have hd : decide ((T.length : Int) < (T.length : Int)) = false := decide_eq_false (by omega)
            have HE9 := Lib.hid (show d.done.take T.length = d.done by rw [HTL.out, List.take_length])
            rw [HE9.out] at HDN
            go_wp2
            go_ret
            exact ⟨N, HDN.out.elim (fun G hG => ⟨G, rfl, HNG.out, hG, hbel⟩)⟩
      · intro s c0 kl y1 y2 w1 cnt1 hkey hlk hv hat hrg1 hlt hgr hsz hen
        try go_frame
        obtain ⟨hkl, hss⟩ := key_str hkey
        subst hkl
        have hy : y1 = .held c0 := by unfold RH at hv; simp only [Option.some.injEq, Prod.mk.injEq] at hv; exact hv.1.symm
        subst hy
        have hhas := Maps.has_true_of_atKey hat
        rw [(HLK.out.2 s).1] at hhas
        obtain ⟨Z, hZ⟩ := Option.isSome_iff_exists.1 hhas
        obtain ⟨fa, fc, hat2, hbz⟩ := (HLK.out.2 s).2 Z hZ
        have hc9 : c0 = .slice fa Z.length fc := by have h1 := (hat .nil).symm.trans (hat2 .nil); simpa using h1
        subst hc9
        have HKN := Lib.hid hkey
        have HZ9 := Lib.hid hZ
        have hle := hbz.2.2
        have HBZ := Lib.hid hbz
        clear hkey hlk hv hat hhas hat2 hZ hbz
        have k1 := bel_grown (B := it) hgr (fun j e => by cases e; exact Nat.le_refl _) (Nat.le_of_lt HIT.out)
        have HA1 := Lib.hid (Apart.of_grown (F := [it]) hgr (fun b e => by cases e; exact List.mem_singleton.2 rfl))
        have HO1 := Lib.hid (ownsMap_same HO.out (k1.block mb HITM.out))
        have HL1 := Lib.hid (HL.out.conv (fun a c Z q => q.apart HA1.out (fun b hb => List.mem_append_right _ hb)))
        have HNB1 := Lib.hid (HNB.out.apart HA1.out (fun q => by simp only [List.mem_singleton] at q; have := HITN.out; omega))
        have HB1 := Lib.hid (hbel.trans (bel_grown (B := w.heap.size) hgr (fun j e => by cases e; exact HITW.out) hbel.size))
        have HIT1 := Lib.hid (show it < w1.heap.size by rw [hsz]; exact HIT.out)
        have HRG1 := Lib.hid hrg1
        have HLE := Lib.hid (show w1.rangeLeft pm it < wr.rangeLeft pm it by rw [hrg1.left_eq, HRG.out.left_eq]; exact hlt)
        have HLEQ := Lib.hid (show wr.rangeLeft pm it = cnt from HRG.out.left_eq)
        have HLT2 := Lib.hid hlt
        clear k1 HA1 HO HL HNB hbel HIT HRG hrg1 hgr hsz hlt
        go_upto_region 5 with fail
        clear hen
        have CC := Lib.hid (fun u (hu : Below w1.heap.size w1 u) => dk_Clone fa Z.length fc Z u (HBZ.out.1.later (belStep HB1.out hu)) hle)
        have HXN := Lib.hid (show ∀ b ∈ (XS ++ footD N (.slice none 0 0)) ++ [it], b < w1.heap.size from fun b hb => by
                              have h1 := HIT1.out
                              have h2 := HITN.out
                              rcases List.mem_append.1 hb with z | z
                              · rcases List.mem_append.1 z with z | z
                                · have := HXF.out b z; have := HITW.out; omega
                                · rcases footD_mem.1 z with r | r
                                  · omega
                                  · cases r
                              · simp only [List.mem_singleton] at z; omega)
        refine wp_region_upc (S := fun u => Blk u N [.map (some mb), .slice none 0 0] 137) [7] (by kernel_rfl) (by exact HNB1.out.later (belDrew (Below.refl _ _))) (fun hHeld => ?_)
        refine UpC.take (i := 0) (oi := ?oi_uc23) (v := ?v_uc23) ?hi_uc23 (by kernel_rfl) ?hf_uc23 ?hr_uc23 (by kernel_rfl) ?hQ_uc23 (Or.inl ⟨?hw_uc23, ?hy_uc23⟩) (by assumption) ?rest_uc23
        case hi_uc23 => ((simp only [List.getElem?_toArray, List.getElem?_cons_succ, List.getElem?_cons_zero]); rfl)
        case hf_uc23 => kernel_rfl
        case hr_uc23 => kernel_rfl
        case hQ_uc23 => exact fun _ _ _ h => h
        case hw_uc23 => rfl
        case hy_uc23 => ((intro w hSw; (try dsimp only at hSw); go_simp); all_goals (with_reducible rfl))
        try simp only [Act.put, List.setIfInBounds_toArray, List.set_cons_zero, List.set_cons_succ]
        refine UpC.take (i := 1) (oi := ?oi_uc24) (v := ?v_uc24) ?hi_uc24 (by kernel_rfl) ?hf_uc24 ?hr_uc24 (by kernel_rfl) ?hQ_uc24 (Or.inl ⟨?hw_uc24, ?hy_uc24⟩) (by assumption) ?rest_uc24
        case hi_uc24 => ((simp only [List.getElem?_toArray, List.getElem?_cons_succ, List.getElem?_cons_zero]); rfl)
        case hf_uc24 => kernel_rfl
        case hr_uc24 => kernel_rfl
        case hQ_uc24 => exact fun _ _ _ h => h
        case hw_uc24 => rfl
        case hy_uc24 => ((intro w hSw; (try dsimp only at hSw); go_simp); all_goals (with_reducible rfl))
        try simp only [Act.put, List.setIfInBounds_toArray, List.set_cons_zero, List.set_cons_succ]
        refine UpC.take (i := 2) (oi := ?oi_uc25) (v := ?v_uc25) ?hi_uc25 (by kernel_rfl) ?hf_uc25 ?hr_uc25 (by kernel_rfl) ?hQ_uc25 (Or.inl ⟨?hw_uc25, ?hy_uc25⟩) (by assumption) ?rest_uc25
        case hi_uc25 => ((simp only [List.getElem?_toArray, List.getElem?_cons_succ, List.getElem?_cons_zero]); rfl)
        case hf_uc25 => kernel_rfl
        case hr_uc25 => kernel_rfl
        case hQ_uc25 => exact fun _ _ _ h => h
        case hw_uc25 => rfl
        case hy_uc25 => ((intro w hSw; (try dsimp only at hSw); go_simp); all_goals (with_reducible rfl))
        try simp only [Act.put, List.setIfInBounds_toArray, List.set_cons_zero, List.set_cons_succ]
        refine UpC.take (i := 3) (oi := ?oi_uc26) (v := ?v_uc26) ?hi_uc26 (by kernel_rfl) ?hf_uc26 ?hr_uc26 (by kernel_rfl) ?hQ_uc26 (Or.inl ⟨?hw_uc26, ?hy_uc26⟩) (by assumption) ?rest_uc26
        case hi_uc26 => ((simp only [List.getElem?_toArray, List.getElem?_cons_succ, List.getElem?_cons_zero]); rfl)
        case hf_uc26 => kernel_rfl
        case hr_uc26 => kernel_rfl
        case hQ_uc26 => exact fun _ _ _ h => h
        case hw_uc26 => rfl
        case hy_uc26 => ((intro w hSw; (try dsimp only at hSw); (have n0 := hSw.cell (j := 0) rfl); go_simp); all_goals (with_reducible rfl))
        try simp only [Act.put, List.setIfInBounds_toArray, List.set_cons_zero, List.set_cons_succ]
        refine UpC.take (i := 4) (oi := ?oi_uc27) (v := ?v_uc27) ?hi_uc27 (by kernel_rfl) ?hf_uc27 ?hr_uc27 (by kernel_rfl) ?hQ_uc27 (Or.inl ⟨?hw_uc27, ?hy_uc27⟩) (by assumption) ?rest_uc27
        case hi_uc27 => ((simp only [List.getElem?_toArray, List.getElem?_cons_succ, List.getElem?_cons_zero]); rfl)
        case hf_uc27 => kernel_rfl
        case hr_uc27 => kernel_rfl
        case hQ_uc27 => exact fun _ _ _ h => h
        case hw_uc27 => rfl
        case hy_uc27 => ((intro w hSw; (try dsimp only at hSw); go_simp); all_goals (with_reducible rfl))
        try simp only [Act.put, List.setIfInBounds_toArray, List.set_cons_zero, List.set_cons_succ]
        refine UpC.take (i := 5) (oi := ?oi_uc28) (v := ?v_uc28) ?hi_uc28 (by kernel_rfl) ?hf_uc28 ?hr_uc28 (by kernel_rfl) ?hQ_uc28 (Or.inl ⟨?hw_uc28, ?hy_uc28⟩) (by assumption) ?rest_uc28
        case hi_uc28 => ((simp only [List.getElem?_toArray, List.getElem?_cons_succ, List.getElem?_cons_zero]); rfl)
        case hf_uc28 => kernel_rfl
        case hr_uc28 => kernel_rfl
        case hQ_uc28 => exact fun _ _ _ h => h
        case hw_uc28 => rfl
        case hy_uc28 => ((intro w hSw; (try dsimp only at hSw); go_simp); all_goals (with_reducible rfl))
        try simp only [Act.put, List.setIfInBounds_toArray, List.set_cons_zero, List.set_cons_succ]
        refine UpC.one (i := 6) (o := ?o_uc29) (by kernel_rfl) ?hi_uc29 (fun K hK => ?rest_uc29)
        case hi_uc29 => ((simp only [List.getElem?_toArray, List.getElem?_cons_succ, List.getElem?_cons_zero]); rfl)
        go_simp
        (go_at_call 80; (with_reducible refine (CC.out _ (belDrew (Below.refl _ _))).mono ?_); rintro e w6 ⟨v6, rfl, ho6, hb6⟩; obtain ⟨ca, cc, rfl, hbx6⟩ := BytesX.of_own (X := (XS ++ footD N (.slice none 0 0)) ++ [it]) ho6 HBZ.out.1.2 HXN.out hle; have HX6 := Lib.hid hbx6; have HB6 := Lib.hid (belStep (belDrew (Below.refl w1.heap.size w1)) hb6); clear ho6 hb6 hbx6)
        try go_simp
        refine hK.out _ _ (fun _ _ => by exact HNB1.out.later HB6.out) (fun hHeld0 => ?_)
        replace hHeld := hHeld0 (by decide) hHeld
        clear hK K hHeld0
        try simp only [Act.put, List.setIfInBounds_toArray, List.set_cons_zero, List.set_cons_succ]
        have HO6 := Lib.hid (ownsMap_same HO1.out (HB6.out.block mb HO1.out.lt))
        refine UpC.one (i := 7) (o := ?o_uc30) (by kernel_rfl) ?hi_uc30 (fun K hK => ?rest_uc30)
        case hi_uc30 => ((simp only [List.getElem?_toArray, List.getElem?_cons_succ, List.getElem?_cons_zero]); rfl)
        refine op_mapM rfl _ _ _ 135 rfl 9 68 strs_keyedD Try.underlying135 mb (Maps.size D) D (by rfl) HO6.out (by have := HSZ.out; unfold maxLen; omega) _ _ _ (by rfl) (by rfl) HKN.out ?_
        intro w7 ho7 ht7
        refine hK.out _ _ (fun q => absurd q (by decide)) (fun _ => ?_)
        clear hK K
        try simp only [Act.put, List.setIfInBounds_toArray, List.set_cons_zero, List.set_cons_succ]
        refine UpC.done (by kernel_rfl) ?_ _
        have HA7 := Lib.hid (turned_apart ht7)
        have hgt : Maps.size (D.put (keyD s) (.held (.slice ca Z.length cc))) = Maps.size D := by
                              rw [Maps.size_put (HO6.out.tidy strs_keyedD), show Maps.has D (keyD s) = true by rw [(HL1.out.2 s).1, HZ9.out]; rfl]; rfl
        have HO7 := Lib.hid (ownsMap_tight ho7)
        have HSZ7 := Lib.hid (show Maps.size (D.put (keyD s) (.held (.slice ca Z.length cc))) ≤ d.cap by rw [hgt]; exact HSZ.out)
        have hl7 := ((HL1.out.conv (fun a c Z q => BytesX.later q HB6.out)).apartM HO6.out HA7.out).put s (HX6.out.apartM HO6.out HA7.out)
        rw [put_self HS.out HZ9.out] at hl7
        have HL7 := Lib.hid hl7
        have HNB7 := Lib.hid ((HNB1.out.later HB6.out).apartM HO6.out HA7.out)
        have HB7 := Lib.hid ((belStep HB1.out HB6.out).trans (HA7.out.below (B := w.heap.size) (fun b hb => by simp only [List.mem_singleton] at hb; subst hb; exact HGE.out) (belStep HB1.out HB6.out).size))
        have HRG7 := Lib.hid ((HRG1.out.kept (bel_none HB6.out) (by simp) (by simp)).kept ht7.grown (fun e => by have h1 := HPL.out; have h2 := HGE.out; cases e; omega) (fun e => by have h1 := HITM.out; cases e; omega))
        have HIT7 := Lib.hid (Nat.lt_of_lt_of_le HIT1.out (Nat.le_trans HB6.out.size HA7.out.size))
        clear ho7 ht7 hl7 hgt
        go_wp2
        go_roundw
        case rel => exact ⟨_, cnt1, _, HRG7, HO7, HSZ7, HL7, HNB7, HIT7, HB7.out⟩
        case measure => rw [HLEQ.out, HRG7.out.left_eq]; exact HLT2.out
end Go.Proofs.Ytcnjcldfbidkmaa
