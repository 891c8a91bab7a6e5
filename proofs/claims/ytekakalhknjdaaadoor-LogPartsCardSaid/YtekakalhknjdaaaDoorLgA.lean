
/- Stage 27: Lines: contract. -/
import Derived.Test.YtekakalhknjdaaaDoorLg9
namespace Go.Proofs.YtekakalhknjdaaaDoor
open Go.RowKit
set_option linter.unusedVariables false
set_option linter.unusedSimpArgs false
theorem seqL_mem : ∀ (A : List (Int × EvV)) (p : Int × EvV), p ∈ A → lineE p.1 p.2 = none → seqL A = none
  | x :: A, p, hp, h => by
    rw [seqL]
    rcases List.mem_cons.1 hp with rfl | hp
    · rw [h]
    · rw [seqL_mem A p hp h]
      cases lineE x.1 x.2 <;> rfl
theorem seqL_bad {L : List StepV} {k j : Nat} {x : StepV} {y : EvV} (hx : L[k]? = some x) (hy : x.E[j]? = some y) (h : lineE x.round y = none) : seqL (evsOf L) = none := by
  refine seqL_mem _ (x.round, y) ?_ h
  unfold evsOf
  exact List.mem_flatMap.2 ⟨x, List.mem_of_getElem? hx, List.mem_map.2 ⟨y, List.mem_of_getElem? hy, rfl⟩⟩
theorem seqL_len : ∀ (A : List (Int × EvV)) (R : List (List UInt8)), seqL A = some R → R.length = A.length
  | [], R, h => by rw [seqL] at h; cases h; rfl
  | x :: A, R, h => by
    rw [seqL] at h
    cases h1 : lineE x.1 x.2 with
    | none => rw [h1] at h; cases h
    | some s =>
      cases h2 : seqL A with
      | none => rw [h1, h2] at h; cases h
      | some r =>
        rw [h1, h2] at h
        cases h
        rw [List.length_cons, List.length_cons, seqL_len A r h2]
def strB (l : List UInt8) : Value := .string (bA l)
/-- What Lines answers. -/
def LnsP (base : Nat) (L : List StepV) (e0 : Ending) (w' : World) : Prop := match seqL (evsOf L) with
  | some R => ∃ (a : Option Addr) (c : Nat), e0 = .returned (.tuple #[.slice a R.length c, .int .i64 0]) ∧ OwnR w' base 9 1 (.slice a R.length c) R.length (R.map strB)
  | none => e0 = .returned (.tuple #[.slice none 0 0, .int .i64 1])
theorem lns_no {base : Nat} {L : List StepV} {w' : World} (h : seqL (evsOf L) = none) : LnsP base L (.returned (.tuple #[.slice none 0 0, .int .i64 1])) w' := by unfold LnsP; rw [h]
theorem lns_yes {base : Nat} {L : List StepV} {R : List (List UInt8)} {w' : World} {a : Option Addr} {c : Nat} (h : seqL (evsOf L) = some R) (ho : OwnR w' base 9 1 (.slice a R.length c) R.length (R.map strB)) : LnsP base L (.returned (.tuple #[.slice a R.length c, .int .i64 0])) w' := by unfold LnsP; rw [h]; exact ⟨a, c, rfl, ho⟩
set_option maxRecDepth 100000 in
set_option maxHeartbeats 64000000 in
theorem lg_Lines (a : Option Addr) (len cap : Nat) (L : List StepV) (w : World) (hl : L.length = len) (hG : ∀ x ∈ L, x.good w) (hR : Row w a len cap 7 (L.flatMap StepV.cells)) (hT : (evsOf L).length ≤ 1000000) (htb : ∀ u, Below w.heap.size w u → Tab u) :
    Calls Tryd.prog 17 #[.slice a len cap] w fun e w' => LnsP w.heap.size L e w' ∧ Below w.heap.size w w' := by
  have hbd_a : len ≤ cap ∧ cap ≤ 9223372036854775807 := by obtain ⟨_, h1, h2, _⟩ := hR; unfold maxLen at h2; exact ⟨h1, h2⟩
  obtain ⟨hbd1_a, hbd2_a⟩ := hbd_a
  have HR := Lib.hid hR
  have HG := Lib.hid hG
  have HT := Lib.hid hT
  have HTB := Lib.hid htb
  clear hR hG hT htb
  subst hl
  have HB0 := Lib.hid (Below.refl w.heap.size w)
  go_enter Tryd.func17, Tryd.ntmps17
  go_wp2
  go_loopw [4, 13] (fun v iv wr => ∃ (k : Nat) (R : List (List UInt8)), k ≤ L.length ∧ iv = .int .i64 k ∧ Hid (seqL (evsOf (L.take k)) = some R) ∧ OwnR wr w.heap.size 9 1 v R.length (R.map strB) ∧ Hid (Below w.heap.size w wr)) (fun _ iv _ => L.length - (intOf iv).toNat)
  case atStart => exact ⟨0, [], Nat.zero_le _, rfl, Lib.hid rfl, OwnR.nil _ _ _ _, HB0⟩
  case round =>
    clear HB0
    obtain ⟨k, R, hk, rfl, HQ, hO, HB⟩ := hrel
    by_cases hlt : k < L.length
    · obtain ⟨x, hx⟩ : ∃ x, L[k]? = some x := ⟨L[k], List.getElem?_eq_getElem hlt⟩
      obtain ⟨bc, oc, ec, _, hcc⟩ := (HR.out.later HB.out).elem StepV.cells_len (by omega) hx
      subst ec
      have c0 := keep (hcc 0 _ rfl)
      have c1 := keep (hcc 1 _ rfl)
      have c2 := keep (hcc 2 _ rfl)
      have c3 := keep (hcc 3 _ rfl)
      have c4 := keep (hcc 4 _ rfl)
      have c5 := keep (hcc 5 _ rfl)
      have c6 := keep (hcc 6 _ rfl)
      rw [Nat.add_zero] at c0
      have hd : decide ((k : Int) < (L.length : Int)) = true := decide_eq_true (by omega)
      have HX := Lib.hid hx
      obtain ⟨⟨_, hrn, hen, hye⟩, hyr⟩ := HG.out x (List.mem_of_getElem? hx)
      have HY := Lib.hid hye
      have HYR := Lib.hid hyr
      have HEN := Lib.hid hen
      have HRN := Lib.hid hrn
      clear hx hcc hye hrn
      generalize hea : x.ea = ea at *
      clear hea
      have HBa := Lib.hid (belStep HB.out (belAlloc (Below.refl wr.heap.size wr) (.cells #[.int .i64 x.err, .slice ea x.en x.ec, .int .i64 x.round, .slice x.pa x.pn x.pc, .bool x.o0, .bool x.o1, .bool x.o2] 49)))
      have HOa := Lib.hid (OwnR.alloc hO (.cells #[.int .i64 x.err, .slice ea x.en x.ec, .int .i64 x.round, .slice x.pa x.pn x.pc, .bool x.o0, .bool x.o1, .bool x.o2] 49))
      have HSa := Lib.hid (Blk.new wr [.int .i64 x.err, .slice ea x.en x.ec, .int .i64 x.round, .slice x.pa x.pn x.pc, .bool x.o0, .bool x.o1, .bool x.o2] 49)
      have hbd_e : x.en ≤ x.ec ∧ x.ec ≤ 9223372036854775807 := by obtain ⟨_, h1, h2, _⟩ := hyr; unfold maxLen at h2; exact ⟨h1, h2⟩
      obtain ⟨hbd1_e, hbd2_e⟩ := hbd_e
      clear hyr hO
      have hbel : Below wr.heap.size wr wr := Below.refl _ _
      have hqb := HB.out.size
      go_wp2
      clear hbel c0 c1 c2 c3 c4 c5 c6
      generalize wr.alloc (.cells #[.int .i64 x.err, .slice ea x.en x.ec, .int .i64 x.round, .slice x.pa x.pn x.pc, .bool x.o0, .bool x.o1, .bool x.o2] 49) = wa at *
      generalize wr.heap.size = q6 at *
      go_loopw [4, 20] (fun v iv wq => ∃ (j : Nat) (R : List (List UInt8)), j ≤ x.en ∧ iv = .int .i64 j ∧ Hid (seqL (evsOf (L.take k) ++ (evsS x).take j) = some R) ∧ OwnR wq w.heap.size 9 1 v R.length (R.map strB) ∧ Hid (Blk wq q6 [.int .i64 x.err, .slice ea x.en x.ec, .int .i64 x.round, .slice x.pa x.pn x.pc, .bool x.o0, .bool x.o1, .bool x.o2] 49) ∧ Hid (Below w.heap.size w wq)) (fun _ iv _ => x.en - (intOf iv).toNat)
      case atStart => exact ⟨0, R, Nat.zero_le _, rfl, by rw [List.take_zero, List.append_nil]; exact HQ, HOa.out, HSa, HBa⟩
      case round =>
        clear HOa HSa HBa HQ HB
        obtain ⟨j, R, hj, rfl, HQ, hO, HSt, HB⟩ := hrel
        by_cases hjt : j < x.en
        · obtain ⟨y, hy⟩ : ∃ y, x.E[j]? = some y := ⟨_, List.getElem?_eq_getElem (show j < x.E.length by rw [HEN.out]; exact hjt)⟩
          obtain ⟨bd, od, ed, _, hcd⟩ := (HYR.out.later HB.out).elem EvV.cells_len (by omega) hy
          subst ed
          have d0 := keep (hcd 0 _ rfl)
          have d1 := keep (hcd 1 _ rfl)
          have d2 := keep (hcd 2 _ rfl)
          have d3 := keep (hcd 3 _ rfl)
          rw [Nat.add_zero] at d0
          have hd : decide ((j : Int) < (x.en : Int)) = true := decide_eq_true (by omega)
          have HEV := Lib.hid (evs_in hy)
          have HLI := Lib.hid (evs_lenI HX.out j)
          rw [← seqL_len _ _ HQ.out] at HLI
          have HBD := Lib.hid (fun h => seqL_bad HX.out hy h)
          obtain ⟨_, hys, _, hyn⟩ := HY.out y (List.mem_of_getElem? hy)
          have HYS := Lib.hid hys
          have HYN := Lib.hid hyn
          clear hy hcd hys hyn
          obtain ⟨N, hN⟩ : ∃ N, evsOf (L.take k) ++ (evsS x).take j = N := ⟨_, rfl⟩
          have HN := Lib.hid (show evsOf (L.take k) ++ (evsS x).take (j + 1) = N ++ [(x.round, y)] from by rw [HEV.out, ← List.append_assoc, hN])
          rw [hN] at HQ
          clear hN HEV
          have HBb := Lib.hid (belStep HB.out (belAlloc (Below.refl wr.heap.size wr) (.cells #[.int .i64 y.kind, .string y.id, .int .i64 y.sig, .int .i64 y.n] 23)))
          have HOb := Lib.hid (OwnR.alloc hO (.cells #[.int .i64 y.kind, .string y.id, .int .i64 y.sig, .int .i64 y.n] 23))
          have HSb := Lib.hid (HSt.out.later (belAlloc (Below.refl wr.heap.size wr) (.cells #[.int .i64 y.kind, .string y.id, .int .i64 y.sig, .int .i64 y.n] 23)))
          have HYb := Lib.hid (Blk.new wr [.int .i64 y.kind, .string y.id, .int .i64 y.sig, .int .i64 y.n] 23)
          have hbel : Below wr.heap.size wr wr := Below.refl _ _
          go_upto_region 8 with fail
          clear hbel d0 d1 d2 d3 hO HB HSt
          generalize wr.alloc (.cells #[.int .i64 y.kind, .string y.id, .int .i64 y.sig, .int .i64 y.n] 23) = wb at *
          generalize wr.heap.size = q8 at *
          have y0 := HYb.out.cell (j := 0) rfl
          have y1 := HYb.out.cell (j := 1) rfl
          have y2 := HYb.out.cell (j := 2) rfl
          have y3 := HYb.out.cell (j := 3) rfl
          have yf := HYb.out.frozen
          have s2 := HSb.out.cell (j := 2) rfl
          have CL := Lib.hid (lg_Line x.round y wb (fun u hu => HTB.out u (belStep HBb.out hu)) HRN.out HYS.out HYN.out)
          cases hln : lineE x.round y with
          | none =>
            rw [(ln_no hln).1, (ln_no hln).2] at CL
            have HNO := Lib.hid (HBD.out hln)
            clear hln
            go_wp2_with (go_at_call 11; (with_reducible refine (CL.out).mono ?_); rintro e9 w6 ⟨rfl, hb6⟩; have HB6 := Lib.hid (belStep HBb.out hb6); have HS6 := Lib.hid (HSb.out.later hb6); have HO6 := Lib.hid (OwnR.later HOb.out hb6); clear hb6)
            go_ret2
            exact ⟨lns_no HNO.out, HB6.out⟩
          | some t =>
            rw [(ln_yes hln).1, (ln_yes hln).2] at CL
            have HQ2 := Lib.hid (show seqL (N ++ [(x.round, y)]) = some (R ++ [t]) from by rw [seqL_snoc, HQ.out]; simp only; rw [hln])
            clear hln
            go_upto_region 11 with (go_at_call 11; (with_reducible refine (CL.out).mono ?_); rintro e9 w6 ⟨rfl, hb6⟩; have HB6 := Lib.hid (belStep HBb.out hb6); have HS6 := Lib.hid (HSb.out.later hb6); have HO6 := Lib.hid (OwnR.later HOb.out hb6); clear hb6)
            have hl9 := HLI.out
            have hT9 := HT.out
            have HOc := Lib.hid (OwnR.alloc HO6.out (.cells #[.string (bA t)] 9))
            have HRX := Lib.hid (row_new w6 [.string (bA t)] 9 1 1 rfl (by unfold maxLen; omega))
            go_wp2_with (at_builtin; (refine wpList_app_row rfl _ _ 41 rfl w.heap.size 9 _ 1 16 Tryd.underlying41 info_strL rfl (by decide) _ _ _ rfl HOc.out _ 1 1 [.string (bA t)] rfl HRX.out (str_oneW (bA t)) ?c1 ?c2 ?c3 ?_))
            case c1 => simp only [maxLen]; omega
            case c2 => omega
            case c3 => have := HB6.out.size; simp; omega
            intro v' w7 ho' hb' hg'
            have HO7 := Lib.hid (own_snocM (enc := strB) ho')
            have HB7 := Lib.hid ((belAlloc HB6.out (.cells #[.string (bA t)] 9)).trans hb')
            have HS7 := Lib.hid (Blk.grownL (HS6.out.later (belAlloc (Below.refl _ _) (.cells #[.string (bA t)] 9))) hg' (own_neW HOc.out (HS6.out.later (belAlloc (Below.refl _ _) (.cells #[.string (bA t)] 9))) (by decide)))
            clear ho' hb' hg'
            go_wp2
            go_roundw
            case rel => exact ⟨j + 1, R ++ [t], by omega, by push_cast; rfl, by rw [HN.out]; exact HQ2, HO7.out, HS7, HB7⟩
            case measure => simp [intOf] <;> omega
        · obtain rfl : j = x.en := by omega
          have hd : decide ((x.en : Int) < (x.en : Int)) = false := decide_eq_false (by omega)
          rw [List.take_of_length_le (l := evsS x) (by unfold evsS; rw [List.length_map, HEN.out]; exact Nat.le_refl _), ← evs_next HX.out] at HQ
          go_wp2
          go_roundw
          case rel => exact ⟨k + 1, R, by omega, by push_cast; rfl, HQ, hO, HB⟩
          case measure => simp [intOf] <;> omega
    · obtain rfl : k = L.length := by omega
      have hd : decide ((L.length : Int) < (L.length : Int)) = false := decide_eq_false (by omega)
      rw [List.take_length] at HQ
      obtain ⟨va, vc, rfl, _⟩ := rowR_of_own hO
      have HO := Lib.hid hO
      clear hO
      go_wp2
      go_ret2
      exact ⟨lns_yes HQ.out HO.out, HB.out⟩
end Go.Proofs.YtekakalhknjdaaaDoor
