
/- Stage 10: the reference: Find, without, Right: contracts. -/
import Derived.Test.YtcnjcldfbidkmaaDkC
namespace Go.Proofs.Ytcnjcldfbidkmaa
open Go.RowKit Go.Sort
set_option linter.unusedVariables false
set_option linter.unusedSimpArgs false

structure FileV where
  name : ByteArray
  ba : Option Addr
  bc : Nat
  Z : List Int
def FileV.cells (f : FileV) : List Value := [.string f.name, .slice f.ba f.Z.length f.bc]
theorem FileV.cells_len (f : FileV) : f.cells.length = 2 := rfl
def FileV.m (f : FileV) : FileM := ⟨f.name, f.Z⟩
def FileV.good (w : World) (f : FileV) : Prop := Ints .u8 w f.ba f.Z.length f.bc f.Z ∧ f.Z.length ≤ 1000 ∧ f.name.size ≤ maxLen
theorem FileV.good.later {u w : World} {f : FileV} (h : f.good u) (hb : Below u.heap.size u w) : f.good w := ⟨h.1.later hb, h.2⟩
theorem info_fileV : (Try.prog.info? 146).map (fun i => (i.zero, i.size, i.bytes)) = some (some (.agg #[.string ⟨#[]⟩, .slice none 0 0]), 2, 40) := by kernel_rfl
theorem file_one (f : FileV) : ∀ v ∈ f.cells, v.oneCell' = true := fun v hv => by
  simp only [FileV.cells, List.mem_cons, List.not_mem_nil, or_false] at hv
  rcases hv with rfl | rfl <;> rfl
theorem files_one (L : List FileV) : ∀ v ∈ L.flatMap FileV.cells, v.oneCell' = true := fun v hv => by
  obtain ⟨x, _, hx⟩ := List.mem_flatMap.1 hv
  exact file_one x v hx
theorem getV_next {L : List FileV} {k : Nat} {x : FileV} {s : ByteArray} (h : L[k]? = some x) (hn : getF ((L.take k).map FileV.m) s = none) : getF ((L.take (k + 1)).map FileV.m) s = if (x.name.toList == s.toList) = true then some x.Z else none := by
  unfold getF at hn ⊢
  rw [takeD_next h, List.map_append, List.find?_append, Option.map_eq_none_iff.1 hn, Option.none_or]
  simp only [List.map_cons, List.map_nil, List.find?_cons, List.find?_nil, FileV.m]
  cases x.name.toList == s.toList <;> rfl
theorem getV_here {L : List FileV} {k : Nat} {x : FileV} {s : ByteArray} (h : L[k]? = some x) (hn : getF ((L.take k).map FileV.m) s = none) (he : (x.name.toList == s.toList) = true) : getF (L.map FileV.m) s = some x.Z := by
  have h1 := getV_next h hn
  rw [if_pos he] at h1
  unfold getF at h1 ⊢
  conv => lhs; rw [← List.take_append_drop (k + 1) L]
  rw [List.map_append, List.find?_append]
  obtain ⟨y, hy, h2⟩ := Option.map_eq_some_iff.1 h1
  rw [hy, Option.some_or, Option.map_some, h2]
set_option maxRecDepth 100000 in
set_option maxHeartbeats 16000000 in
theorem fr_Find (a : Option Addr) (n c : Nat) (L : List FileV) (s : ByteArray) (w : World) (hl : L.length = n) (hR : Row w a n c 2 (L.flatMap FileV.cells)) :
    Calls Try.prog 114 #[.slice a n c, .string s] w fun e w' => ∃ q : Int, e = .returned (.int .i64 q) ∧ ((q = -1 ∧ getF (L.map FileV.m) s = none) ∨ ∃ (k : Nat) (f : FileV), q = (k : Int) ∧ L[k]? = some f ∧ f.name = s ∧ getF (L.map FileV.m) s = some f.Z) ∧ Below w.heap.size w w' := by
  have hw : Below w.heap.size w w := Below.refl _ _
  have hbd_a : n ≤ c ∧ c ≤ 9223372036854775807 := by obtain ⟨_, h1, h2, _⟩ := hR; unfold maxLen at h2; exact ⟨h1, h2⟩
  obtain ⟨hbd1_a, hbd2_a⟩ := hbd_a
  have HR := Lib.hid hR
  clear hR
  subst hl
  go_enter Try.func114, Try.ntmps114
  go_wp2
  go_loopw [5] (fun i wr => ∃ k : Nat, k ≤ L.length ∧ i = .int .i64 k ∧ Hid (getF ((L.take k).map FileV.m) s = none) ∧ Below w.heap.size w wr) (fun i _ => L.length - (intOf i).toNat)
  case atStart => exact ⟨0, Nat.zero_le _, rfl, Lib.hid rfl, hw⟩
  case round =>
    clear hw
    obtain ⟨k, hk, rfl, HNO, hbel⟩ := hrel
    by_cases hlt : k < L.length
    · have hd : decide ((k : Int) < (L.length : Int)) = true := decide_eq_true (by omega)
      have hki : (k : Int) < (L.length : Int) := by omega
      have hk0 : (0 : Int) ≤ (k : Int) := by omega
      obtain ⟨x, hx⟩ : ∃ x, L[k]? = some x := ⟨L[k], List.getElem?_eq_getElem hlt⟩
      obtain ⟨bc, oc, ec, _, hcc⟩ := (HR.out).elem FileV.cells_len (by omega) hx
      subst ec
      have c0 := keep (hcc 0 _ rfl)
      have c1 := keep (hcc 1 _ rfl)
      rw [Nat.add_zero] at c0
      have HX := Lib.hid hx
      clear hx hcc
      cases he : (x.name.toList == s.toList) with
      | true =>
        have HY := Lib.hid (getV_here HX.out HNO.out he)
        have HE := Lib.hid he
        go_wp2
        go_ret
        exact ⟨_, rfl, .inr ⟨k, x, rfl, HX.out, ba_ext (eq_of_beq HE.out), HY.out⟩, hbel⟩
      | false =>
        have HN := Lib.hid (show getF ((L.take (k + 1)).map FileV.m) s = none by rw [getV_next HX.out HNO.out, he]; rfl)
        go_wp2
        go_roundw
        case rel => exact ⟨k + 1, by omega, by push_cast; rfl, HN, hbel⟩
        case measure => simp [intOf] <;> omega
    · obtain rfl : k = L.length := by omega
      have hd : decide ((L.length : Int) < (L.length : Int)) = false := decide_eq_false (by omega)
      rw [List.take_length] at HNO
      go_wp2
      go_ret
      exact ⟨_, rfl, .inl ⟨rfl, HNO.out⟩, hbel⟩
set_option maxRecDepth 100000 in
set_option maxHeartbeats 16000000 in
theorem fr_without (a : Option Addr) (n c : Nat) (L : List FileV) (s : ByteArray) (w : World) (hl : L.length = n) (hR : Row w a n c 2 (L.flatMap FileV.cells)) (hn : n ≤ 100000) :
    Calls Try.prog 115 #[.slice a n c, .string s] w fun e w' => ∃ v, e = .returned v ∧ OwnR w' w.heap.size 146 2 v (L.filter (fun x : FileV => !(x.name.toList == s.toList))).length ((L.filter (fun x : FileV => !(x.name.toList == s.toList))).flatMap FileV.cells) ∧ Below w.heap.size w w' := by
  have hw : Below w.heap.size w w := Below.refl _ _
  have hbd_a : n ≤ c ∧ c ≤ 9223372036854775807 := by obtain ⟨_, h1, h2, _⟩ := hR; unfold maxLen at h2; exact ⟨h1, h2⟩
  obtain ⟨hbd1_a, hbd2_a⟩ := hbd_a
  have HR := Lib.hid hR
  clear hR
  subst hl
  go_enter Try.func115, Try.ntmps115
  go_wp2
  go_loopw [5, 6] (fun v i wr => ∃ k : Nat, k ≤ L.length ∧ i = .int .i64 k ∧ OwnR wr w.heap.size 146 2 v ((L.take k).filter (fun x : FileV => !(x.name.toList == s.toList))).length (((L.take k).filter (fun x : FileV => !(x.name.toList == s.toList))).flatMap FileV.cells) ∧ Below w.heap.size w wr) (fun _ i _ => L.length - (intOf i).toNat)
  case atStart => exact ⟨0, Nat.zero_le _, rfl, OwnR.nil _ _ _ _, hw⟩
  case round =>
    clear hw
    obtain ⟨k, hk, rfl, hO, hbr⟩ := hrel
    by_cases hlt : k < L.length
    · have hd : decide ((k : Int) < (L.length : Int)) = true := decide_eq_true (by omega)
      have hki : (k : Int) < (L.length : Int) := by omega
      have hk0 : (0 : Int) ≤ (k : Int) := by omega
      have hfl := filtG_len (fun x : FileV => !(x.name.toList == s.toList)) L k
      obtain ⟨x, hx⟩ : ∃ x, L[k]? = some x := ⟨L[k], List.getElem?_eq_getElem hlt⟩
      obtain ⟨bc, oc, ec, _, hcc⟩ := (HR.out.later hbr).elem FileV.cells_len (by omega) hx
      subst ec
      have c0 := keep (hcc 0 _ rfl)
      have c1 := keep (hcc 1 _ rfl)
      rw [Nat.add_zero] at c0
      have HX := Lib.hid hx
      clear hx hcc
      have HBR := Lib.hid hbr
      clear hbr
      have hbel : Below wr.heap.size wr wr := Below.refl _ _
      cases he : (x.name.toList == s.toList) with
      | true =>
        have HN := Lib.hid (filtG_same (f := (fun x : FileV => !(x.name.toList == s.toList))) HX.out (by simp only [he]; rfl))
        have hne : (x.name.toList != s.toList) = false := by simp [bne, he]
        have HO := Lib.hid hO
        clear hO
        go_wp2
        go_roundw
        case rel => exact ⟨k + 1, by omega, by push_cast; rfl, by rw [HN.out]; exact HO.out, HBR.out⟩
        case measure => simp [intOf] <;> omega
      | false =>
        have HN := Lib.hid (filtG_next (f := (fun x : FileV => !(x.name.toList == s.toList))) HX.out (by simp only [he]; rfl))
        have hne : (x.name.toList != s.toList) = true := by simp [bne, he]
        obtain ⟨N, hN⟩ : ∃ N, ((L.take k).filter (fun x : FileV => !(x.name.toList == s.toList))) = N := ⟨_, rfl⟩
        rw [hN] at hO HN hfl
        clear hN
        have HOA := Lib.hid (OwnR.alloc hO (.cells #[.string x.name, .slice x.ba x.Z.length x.bc] 146))
        have HXA := Lib.hid (row_new wr [.string x.name, .slice x.ba x.Z.length x.bc] 146 1 2 rfl (by unfold maxLen; omega))
        clear hO
        go_wp2_with (at_builtin; refine wpList_app_row rfl _ _ 66 rfl w.heap.size 146 _ 2 40 Try.underlying66 info_fileV rfl (by decide) _ _ _ rfl HOA.out _ 1 1 [.string x.name, .slice x.ba x.Z.length x.bc] rfl HXA.out (file_one x) ?c1 ?c2 ?c3 ?_)
        case c1 => simp only [maxLen]; omega
        case c2 => omega
        case c3 => have := HBR.out.size; simp; omega
        intro v' w6 ho' hb' _
        have HO2 := Lib.hid (own_snocG (enc := FileV.cells) (x := x) ho')
        have HB2 := Lib.hid (((belAlloc HBR.out (.cells #[.string x.name, .slice x.ba x.Z.length x.bc] 146)).trans hb'))
        clear ho' hb'
        go_wp2
        go_roundw
        case rel => exact ⟨k + 1, by omega, by push_cast; rfl, by rw [HN.out]; exact HO2.out, HB2.out⟩
        case measure => simp [intOf] <;> omega
    · obtain rfl : k = L.length := by omega
      have hd : decide ((L.length : Int) < (L.length : Int)) = false := decide_eq_false (by omega)
      rw [List.take_length] at hO
      go_wp2
      go_ret
      exact ⟨_, rfl, hO, hbr⟩
set_option maxRecDepth 100000 in
set_option maxHeartbeats 16000000 in
theorem fr_Right (o : OpV) (w : World) (hs : o.small) :
    Calls Try.prog 34 #[.agg #[.int .i64 o.kind, .string o.name, .string o.dst, .slice o.ba o.Z.length o.bc]] w fun e w' => e = .returned (.bool (rightM o.m)) ∧ Below w.heap.size w w' := by
  have hw : Below w.heap.size w w := Below.refl _ _
  have hbel := hw
  obtain ⟨hs1, hs2, hs3, hs4⟩ := hs
  have hn9 : o.name.size ≤ 9223372036854775807 := by unfold maxLen at hs1; omega
  have hd9 : o.dst.size ≤ 9223372036854775807 := by unfold maxLen at hs2; omega
  obtain ⟨r, hr⟩ : ∃ r, rightM o.m = r := ⟨_, rfl⟩
  have HRT := Lib.hid (show rightM o.m = ((decide (o.kind = 1) || decide (o.kind = 3) || (decide (o.kind = 2) && (decide (1 ≤ o.dst.size) && decide (o.dst.size ≤ 32)))) && (decide (1 ≤ o.name.size) && decide (o.name.size ≤ 32))) by unfold rightM namedM OpV.m; dsimp only; by_cases k1 : o.kind = 1 <;> by_cases k2 : o.kind = 2 <;> by_cases k3 : o.kind = 3 <;> simp_all [Bool.and_comm] <;> omega)
  rw [hr] at HRT
  rw [hr]
  clear hr hs1 hs2
  by_cases ha : o.kind < 1
  · have da : decide (o.kind < (1 : Int)) = true := decide_eq_true (by omega)
    have HV := Lib.hid (show r = false by rw [HRT.out]; rw [Bool.eq_false_iff]; simp only [ne_eq, Bool.and_eq_true, Bool.or_eq_true, decide_eq_true_eq]; omega)
    go_enter Try.func34, Try.ntmps34
    go_wp2
    go_ret
    exact ⟨by rw [HV.out]; first | rfl | simp, belAlloc hbel _⟩
  · have da : decide (o.kind < (1 : Int)) = false := decide_eq_false (by omega)
    have ia : ¬ (o.kind < (1 : Int)) := by omega
    by_cases hb : 3 < o.kind
    · have db : decide ((3 : Int) < o.kind) = true := decide_eq_true (by omega)
      have HV := Lib.hid (show r = false by rw [HRT.out]; rw [Bool.eq_false_iff]; simp only [ne_eq, Bool.and_eq_true, Bool.or_eq_true, decide_eq_true_eq]; omega)
      go_enter Try.func34, Try.ntmps34
      go_wp2
      go_ret
      exact ⟨by rw [HV.out]; first | rfl | simp, belAlloc hbel _⟩
    · have db : decide ((3 : Int) < o.kind) = false := decide_eq_false (by omega)
      have ib : ¬ ((3 : Int) < o.kind) := by omega
      by_cases hc : o.name.size < 1
      · have dc : decide ((o.name.size : Int) < 1) = true := decide_eq_true (by omega)
        have HV := Lib.hid (show r = false by rw [HRT.out]; rw [Bool.eq_false_iff]; simp only [ne_eq, Bool.and_eq_true, Bool.or_eq_true, decide_eq_true_eq]; omega)
        go_enter Try.func34, Try.ntmps34
        go_wp2
        go_ret
        exact ⟨by rw [HV.out]; first | rfl | simp, belAlloc hbel _⟩
      · have dc : decide ((o.name.size : Int) < 1) = false := decide_eq_false (by omega)
        have ic : ¬ ((o.name.size : Int) < 1) := by omega
        by_cases hd : 32 < o.name.size
        · have dd : decide ((32 : Int) < (o.name.size : Int)) = true := decide_eq_true (by omega)
          have HV := Lib.hid (show r = false by rw [HRT.out]; rw [Bool.eq_false_iff]; simp only [ne_eq, Bool.and_eq_true, Bool.or_eq_true, decide_eq_true_eq]; omega)
          go_enter Try.func34, Try.ntmps34
          go_wp2
          go_ret
          exact ⟨by rw [HV.out]; first | rfl | simp, belAlloc hbel _⟩
        · have dd : decide ((32 : Int) < (o.name.size : Int)) = false := decide_eq_false (by omega)
          have id : ¬ ((32 : Int) < (o.name.size : Int)) := by omega
          by_cases hk2 : o.kind = 2
          · have n2 : (o.kind == (2 : Int)) = true := by rw [hk2]; rfl
            have n3 : (o.kind != (2 : Int)) = false := by rw [hk2]; rfl
            by_cases he : 1 ≤ o.dst.size
            · have de : decide ((1 : Int) ≤ (o.dst.size : Int)) = true := decide_eq_true (by omega)
              by_cases hu : o.dst.size ≤ 32
              · have du : decide ((o.dst.size : Int) ≤ 32) = true := decide_eq_true (by omega)
                have HV := Lib.hid (show r = true by rw [HRT.out]; simp only [Bool.and_eq_true, Bool.or_eq_true, decide_eq_true_eq]; omega)
                go_enter Try.func34, Try.ntmps34
                go_wp2
                go_ret
                exact ⟨by rw [HV.out]; first | rfl | simp, belAlloc hbel _⟩
              · have du : decide ((o.dst.size : Int) ≤ 32) = false := decide_eq_false (by omega)
                have iu : ¬ ((o.dst.size : Int) ≤ 32) := by omega
                have HV := Lib.hid (show r = false by rw [HRT.out]; rw [Bool.eq_false_iff]; simp only [ne_eq, Bool.and_eq_true, Bool.or_eq_true, decide_eq_true_eq]; omega)
                go_enter Try.func34, Try.ntmps34
                go_wp2
                go_ret
                exact ⟨by rw [HV.out]; first | rfl | simp, belAlloc hbel _⟩
            · have de : decide ((1 : Int) ≤ (o.dst.size : Int)) = false := decide_eq_false (by omega)
              have ie : ¬ ((1 : Int) ≤ (o.dst.size : Int)) := by omega
              have HV := Lib.hid (show r = false by rw [HRT.out]; rw [Bool.eq_false_iff]; simp only [ne_eq, Bool.and_eq_true, Bool.or_eq_true, decide_eq_true_eq]; omega)
              go_enter Try.func34, Try.ntmps34
              go_wp2
              go_ret
              exact ⟨by rw [HV.out]; first | rfl | simp, belAlloc hbel _⟩
          · have n2 : (o.kind == (2 : Int)) = false := by rw [beq_eq_false_iff_ne]; exact hk2
            have n3 : (o.kind != (2 : Int)) = true := by simp [bne, n2]
            have HV := Lib.hid (show r = true by rw [HRT.out]; simp only [Bool.and_eq_true, Bool.or_eq_true, decide_eq_true_eq]; omega)
            go_enter Try.func34, Try.ntmps34
            go_wp2
            go_ret
            exact ⟨by rw [HV.out]; first | rfl | simp, belAlloc hbel _⟩
end Go.Proofs.Ytcnjcldfbidkmaa
