
/- Stage 27: Read: contract. -/
import Derived.Test.YtekakalhknjdaaaDoorLg7
namespace Go.Proofs.YtekakalhknjdaaaDoor
open Go.RowKit
set_option linter.unusedVariables false
set_option linter.unusedSimpArgs false
/-- What Read answers. -/
def rdR (s : ByteArray) : Int := match progF s.data.toList with | some (r, e) => r | none => 0
def rdE (s : ByteArray) : EvV := match progF s.data.toList with | some (r, e) => e | none => EvV.zero
def rdX (s : ByteArray) : Int := match progF s.data.toList with | some _ => 0 | none => 2
theorem numG_in (l : List UInt8) : InI (numG l) := by
  refine ⟨?_, numG_bd l⟩
  unfold numG
  rcases h : Lib.atoiAll l with v | _ | _
  · simp only
    unfold Lib.atoiAll at h
    split at h
    · cases h
    · dsimp only at h
      split at h
      · cases h
      · cases h
      · split at h
        · cases h
        · split at h
          · cases h
          · rename_i hp q1 q2
            cases h
            split <;> omega
  · simp only; omega
  · simp only; omega
theorem cuts_len (c : UInt8) : ∀ (l : List UInt8), (cutsL c l).length ≤ l.length + 1 ∧ ∀ x ∈ cutsL c l, x.length ≤ l.length := by
  intro l
  induction l with
  | nil => simp [cutsL]
  | cons b l ih =>
    obtain ⟨h1, h2⟩ := ih
    unfold cutsL
    split
    · refine ⟨by simp; omega, fun x hx => ?_⟩
      rcases List.mem_cons.1 hx with rfl | hx
      · simp
      · have := h2 x hx; simp; omega
    · split
      · rename_i h t q
        rw [q] at h1 h2
        refine ⟨by simp at h1 ⊢; omega, fun x hx => ?_⟩
        rcases List.mem_cons.1 hx with rfl | hx
        · have := h2 h List.mem_cons_self; simp; omega
        · have := h2 x (List.mem_cons_of_mem _ hx); simp; omega
      · exact absurd (by assumption) (cuts_ne c l)
theorem pcs_len (c : UInt8) (l : List UInt8) (j : Nat) : ((cutsL c l).getD j []).length ≤ l.length := by
  rw [List.getD_eq_getElem?_getD]
  cases q : (cutsL c l)[j]? with
  | none => simp
  | some x => exact (cuts_len c l).2 x (List.mem_of_getElem? q)
theorem readG_in (P : List (List UInt8)) (N : Nat) (h : ∀ j, (P.getD j []).length ≤ N) : InI (readG P).1 ∧ (readG P).2.id.size ≤ N ∧ InI (readG P).2.n := by
  have hz : ∀ j, (bA (P.getD j [])).size ≤ N := fun j => by rw [bA_size]; exact h j
  have h0 : (⟨#[]⟩ : ByteArray).size ≤ N := Nat.zero_le _
  have i0 : InI 0 := ⟨by omega, by omega⟩
  have i3 : InI 3 := ⟨by omega, by omega⟩
  have i4 : InI 4 := ⟨by omega, by omega⟩
  refine ⟨numG_in _, ?_, ?_⟩
  · unfold readG
    dsimp only
    repeat' split
    all_goals first | exact hz _ | exact h0
  · unfold readG
    dsimp only
    repeat' split
    all_goals first | exact numG_in _ | exact i0 | exact i3 | exact i4
theorem rd_new (u : World) (L : List (List UInt8)) : RdAt ((u.alloc (.cells (L.map (Value.string ∘ bA)).toArray 9)).alloc (.cells #[.slice (some ⟨u.heap.size, 0, none⟩) L.length L.length] 63)) (u.heap.size + 1) u.heap.size L 0 := by
  have hl : (u.alloc (.cells (L.map (Value.string ∘ bA)).toArray 9)).heap.size = u.heap.size + 1 := by simp
  have h1 := Blk.new (u.alloc (.cells (L.map (Value.string ∘ bA)).toArray 9)) [.slice (some ⟨u.heap.size, 0, none⟩) L.length L.length] 63
  have h2 := (Blk.new u (L.map (Value.string ∘ bA)) 9).later (belAlloc (Below.refl _ _) (.cells #[.slice (some ⟨u.heap.size, 0, none⟩) L.length L.length] 63))
  rw [hl] at h1
  refine ⟨?_, fun j x hj => h2.cell (by rw [List.getElem?_map, hj]; rfl), by omega, by simp; omega⟩
  rw [show min 0 (L.length - 1) = 0 by omega]
  exact h1
theorem read_fin {W : World} {a b c d x y : Value} {z : Nat} {T : TypeId} (h : Blk W z [a, b, c, d] T) (t : Array Value) (h2 : t.getD 2 undef = x) (h3 : t.getD 3 undef = .pointer (some ⟨z, 0, none⟩)) (h4 : t.getD 4 undef = y) : (results Tryd.f14 t).run Tryd.prog W = .ok (.tuple #[x, .agg #[a, b, c, d], y]) W := by
  have p0 := h.cell (j := 0) rfl
  have p1 := h.cell (j := 1) rfl
  have p2 := h.cell (j := 2) rfl
  have p3 := h.cell (j := 3) rfl
  have h2' : t[2]?.getD undef = x := by rw [← h2]; simp
  have h3' : t[3]?.getD undef = .pointer (some ⟨z, 0, none⟩) := by rw [← h3]; simp
  have h4' : t[4]?.getD undef = y := by rw [← h4]; simp
  simp [results, Tryd.results14, go_sem, h2', h3', h4', p0, p1, p2, p3]
theorem rd_yes {s : ByteArray} (h : lineE (readG (cutsL 32 s.data.toList)).1 (readG (cutsL 32 s.data.toList)).2 = some s.data.toList) : rdR s = (readG (cutsL 32 s.data.toList)).1 ∧ rdE s = (readG (cutsL 32 s.data.toList)).2 ∧ rdX s = 0 := by
  unfold rdR rdE rdX progF
  rw [if_pos h]
  exact ⟨rfl, rfl, rfl⟩
theorem rd_no {s : ByteArray} (h : ¬ lineE (readG (cutsL 32 s.data.toList)).1 (readG (cutsL 32 s.data.toList)).2 = some s.data.toList) : rdR s = 0 ∧ rdE s = EvV.zero ∧ rdX s = 2 := by
  unfold rdR rdE rdX progF
  rw [if_neg h]
  exact ⟨rfl, rfl, rfl⟩
set_option maxRecDepth 100000 in
set_option maxHeartbeats 16000000 in
theorem lg_Read (s : ByteArray) (w : World) (he : ∀ u, Below w.heap.size w u → Env u) (hs : s.size ≤ 1000000) :
    Calls Tryd.prog 14 #[.string s] w fun e0 w' => e0 = .returned (.tuple #[.int .i64 (rdR s), (rdE s).v, .int .i64 (rdX s)]) ∧ Below w.heap.size w w' := by
  have HE := Lib.hid he
  have HS := Lib.hid hs
  obtain ⟨L, hLL⟩ : ∃ L, cutsL 32 s.data.toList = L := ⟨_, rfl⟩
  have hlen := cuts_len 32 s.data.toList
  have hp := pcs_len 32 s.data.toList
  rw [hLL] at hlen hp
  have hsz : s.data.toList.length = s.size := rfl
  rw [hsz] at hlen hp
  have hL : L.length ≤ maxLen := by unfold maxLen; omega
  have HL := Lib.hid hL
  have HP := Lib.hid (fun j => Nat.le_trans (hp j) hs)
  have HRI := Lib.hid (readG_in L s.size hp)
  have HLL := Lib.hid hLL
  have HNE := Lib.hid (show L ≠ [] from by rw [← hLL]; exact cuts_ne _ _)
  obtain ⟨m, hm⟩ := (he w (Below.refl _ _)).ml
  have CS := Lib.hid (fun u (hu : Below w.heap.size w u) => Tryd.strings_Split s ⟨#[32]⟩ m u (by omega) (cell_later hu hm) (by decide))
  have HSC := Lib.hid (split_c 32 (Lib.countB s ⟨#[32]⟩) s rfl)
  rw [hLL] at HSC
  rw [HSC.out.1] at CS
  obtain ⟨k, hk⟩ : ∃ k, Lib.countB s ⟨#[32]⟩ + 1 = k := ⟨_, rfl⟩
  have hkl := HSC.out.2
  rw [hk] at CS hkl
  subst hkl
  clear hk HSC hm he hs hp hlen hL hLL
  go_enter Tryd.func14, Tryd.ntmps14
  go_upto_region 2 with (go_at_call 28; (with_reducible refine (CS.out _ (belAlloc (Below.refl _ _) (.cells #[.int .i64 0, .string ⟨#[]⟩, .int .i64 0, .int .i64 0] 23))).mono ?_); rintro e9 w1 ⟨rfl, rfl⟩)
  have kb := belAlloc (belAlloc (belAlloc (Below.refl w.heap.size w) (.cells #[.int .i64 0, .string ⟨#[]⟩, .int .i64 0, .int .i64 0] 23)) (.cells (List.map (Value.string ∘ bA) L).toArray 9)) (.cells #[.slice (some ⟨w.heap.size + 1, 0, none⟩) L.length L.length] 63)
  have HKB := Lib.hid kb
  have hs1 : (w.alloc (.cells #[.int .i64 0, .string ⟨#[]⟩, .int .i64 0, .int .i64 0] 23)).heap.size = w.heap.size + 1 := by simp
  have hrd := rd_new (w.alloc (.cells #[.int .i64 0, .string ⟨#[]⟩, .int .i64 0, .int .i64 0] 23)) L
  rw [hs1] at hrd
  have HRD := Lib.hid hrd
  have HZ := Lib.hid ((Blk.new w [.int .i64 0, .string ⟨#[]⟩, .int .i64 0, .int .i64 0] 23).later (belAlloc (belAlloc (Below.refl _ _) (.cells (List.map (Value.string ∘ bA) L).toArray 9)) (.cells #[.slice (some ⟨w.heap.size + 1, 0, none⟩) L.length L.length] 63)))
  clear kb hs1 hrd
  generalize ((w.alloc (.cells #[.int .i64 0, .string ⟨#[]⟩, .int .i64 0, .int .i64 0] 23)).alloc (.cells (List.map (Value.string ∘ bA) L).toArray 9)).alloc (.cells #[.slice (some ⟨w.heap.size + 1, 0, none⟩) L.length L.length] 63) = w2 at *
  have CN := Lib.hid (rd_number (w.heap.size + 1 + 1) (w.heap.size + 1) (w.heap.size + 1) 0 L w2 HRD.out (by omega) HL.out (fun u hu => HE.out u (HKB.out.trans (hu.mono (by omega)))) HP.out)
  obtain ⟨r, hr⟩ : ∃ r, (readG L).1 = r := ⟨_, rfl⟩
  rw [show nGs L 0 = r from hr] at CN
  obtain ⟨e, hev⟩ : ∃ e, (readG L).2 = e := ⟨_, rfl⟩
  have CE := Lib.hid (fun u (hu : RdAt u (w.heap.size + 1 + 1) (w.heap.size + 1) L 1) (hb : Below (w.heap.size + 1) w2 u) => lg_read_event (w.heap.size + 1 + 1) (w.heap.size + 1) (w.heap.size + 1) L u hu (by omega) HL.out (fun v hv => HE.out v (HKB.out.trans ((hb.trans hv).mono (by omega)))) HP.out)
  rw [hev] at CE
  rw [show e.v = .agg #[.int .i64 e.kind, .string e.id, .int .i64 e.sig, .int .i64 e.n] from rfl] at CE
  rw [hr, hev] at HRI
  have HW := Lib.hid (show readG (cutsL 32 s.data.toList) = (r, e) from by rw [HLL.out, ← hr, ← hev])
  have HRI2 := Lib.hid HRI.out
  clear hr hev HRI HLL
  go_upto_region 4 with (first | (go_at_call 29; (with_reducible refine (CN.out).mono ?_); rintro e9 w3 ⟨rfl, hr3, ho3⟩; have HR3 := Lib.hid hr3; have HB3 := Lib.hid (ho3.bel (base := w.heap.size + 1) (by omega)); clear hr3 ho3) | (go_at_call 30; (with_reducible refine (CE.out _ HR3.out HB3.out).mono ?_); rintro e9 w4 ⟨rfl, hb4⟩; have HB4 := Lib.hid (HB3.out.trans hb4); clear hb4))
  have HA := Lib.hid (Blk.new w4 [.int .i64 e.kind, .string e.id, .int .i64 e.sig, .int .i64 e.n] 23)
  have hb5 := (HKB.out.trans (HB4.out.mono (by omega))).trans ((belAlloc (Below.refl w4.heap.size w4) (.cells #[.int .i64 e.kind, .string e.id, .int .i64 e.sig, .int .i64 e.n] 23)).mono (HKB.out.trans (HB4.out.mono (by omega))).size)
  have HZ5 := Lib.hid (Blk.later (show Blk w4 w.heap.size [.int .i64 0, .string ⟨#[]⟩, .int .i64 0, .int .i64 0] 23 from (HB4.out.block w.heap.size (by omega)).trans HZ.out) (belAlloc (Below.refl _ _) (.cells #[.int .i64 e.kind, .string e.id, .int .i64 e.sig, .int .i64 e.n] 23)))
  have HB5 := Lib.hid hb5
  have hl5 : w4.heap.size < (w4.alloc (.cells #[.int .i64 e.kind, .string e.id, .int .i64 e.sig, .int .i64 e.n] 23)).heap.size := by simp
  clear hb5 HZ CN CE
  generalize w4.alloc (.cells #[.int .i64 e.kind, .string e.id, .int .i64 e.sig, .int .i64 e.n] 23) = w5 at *
  generalize w4.heap.size = q5 at *
  obtain ⟨ri, ei, ni⟩ := HRI2.out
  have hsz9 := HS.out
  have e0 := HA.out.cell (j := 0) rfl
  have e1 := HA.out.cell (j := 1) rfl
  have e2 := HA.out.cell (j := 2) rfl
  have e3 := HA.out.cell (j := 3) rfl
  have ef := HA.out.frozen
  have CL := Lib.hid (lg_Line r e w5 (fun u hu => (HE.out u (belStep HB5.out hu)).tab) ri (by unfold maxLen; omega) ni)
  clear hsz9 ri ei ni HRI2
  cases hln : lineE r e with
  | none =>
    have HN := Lib.hid (rd_no (s := s) (by rw [HW.out]; simp only; rw [hln]; exact fun q => by cases q))
    rw [(ln_no hln).1, (ln_no hln).2] at CL
    clear hln
    go_wp2_with (go_at_call 11; (with_reducible refine (CL.out).mono ?_); rintro e9 w6 ⟨rfl, hb6⟩; have HZ6 := Lib.hid (HZ5.out.later hb6); have HB6 := Lib.hid (belStep HB5.out hb6); have HA6 := Lib.hid (HA.out.later hb6); have z0 := HZ6.out.cell (j := 0) rfl; have y0 := HA6.out.cell (j := 0) rfl; have z1 := HZ6.out.cell (j := 1) rfl; have y1 := HA6.out.cell (j := 1) rfl; have z2 := HZ6.out.cell (j := 2) rfl; have y2 := HA6.out.cell (j := 2) rfl; have z3 := HZ6.out.cell (j := 3) rfl; have y3 := HA6.out.cell (j := 3) rfl; have zf := HZ6.out.frozen; clear hb6)
    rw [HN.out.1, HN.out.2.1, HN.out.2.2]
    exact bodyPost_ret (read_fin (Blk.set ((Blk.set ((Blk.set ((Blk.set (HZ6.out) 0 (.int .i64 0))) 1 (.string ⟨#[]⟩))) 2 (.int .i64 0))) 3 (.int .i64 0)) _ rfl rfl rfl) rfl ⟨rfl, (belLow6 ((belLow6 ((belLow6 ((belLow6 (HB6.out) ⟨w.heap.size, 0, none⟩ (.int .i64 0) (Nat.le_refl _))) ⟨w.heap.size, 1, none⟩ (.string ⟨#[]⟩) (Nat.le_refl _))) ⟨w.heap.size, 2, none⟩ (.int .i64 0) (Nat.le_refl _))) ⟨w.heap.size, 3, none⟩ (.int .i64 0) (Nat.le_refl _))⟩
  | some t =>
    rw [(ln_yes hln).1, (ln_yes hln).2] at CL
    by_cases ht : t = s.data.toList
    · have HN := Lib.hid (rd_yes (s := s) (by rw [HW.out]; simp only; rw [hln, ht]))
      rw [HW.out] at HN
      have t1 : ((bA t).toList == s.toList) = true := by rw [bA_toL, sl, beq_iff_eq]; exact ht
      have t2 : ((bA t).toList != s.toList) = false := by rw [bA_toL, sl, bne_eq_false_iff_eq]; exact ht
      clear hln ht
      go_upto_region 7 with (go_at_call 11; (with_reducible refine (CL.out).mono ?_); rintro e9 w6 ⟨rfl, hb6⟩; have HZ6 := Lib.hid (HZ5.out.later hb6); have HB6 := Lib.hid (belStep HB5.out hb6); have HA6 := Lib.hid (HA.out.later hb6); have z0 := HZ6.out.cell (j := 0) rfl; have y0 := HA6.out.cell (j := 0) rfl; have z1 := HZ6.out.cell (j := 1) rfl; have y1 := HA6.out.cell (j := 1) rfl; have z2 := HZ6.out.cell (j := 2) rfl; have y2 := HA6.out.cell (j := 2) rfl; have z3 := HZ6.out.cell (j := 3) rfl; have y3 := HA6.out.cell (j := 3) rfl; have zf := HZ6.out.frozen; clear hb6)
      refine wp_region_upc (S := fun u => Blk u q5 [.int .i64 e.kind, .string e.id, .int .i64 e.sig, .int .i64 e.n] 23 ∧ Below w6.heap.size w6 u) [3, 4] (by kernel_rfl) (by exact ⟨HA6.out.later (belDrew (Below.refl _ _)), belDrew (Below.refl _ _)⟩) (fun hHeld => ?_)
      refine UpC.take (i := 0) (oi := ?oi_uc1) (v := ?v_uc1) ?hi_uc1 (by kernel_rfl) ?hf_uc1 ?hr_uc1 (by kernel_rfl) ?hQ_uc1 (Or.inl ⟨?hw_uc1, ?hy_uc1⟩) (by assumption) ?rest_uc1
      case hi_uc1 => ((simp only [List.getElem?_toArray, List.getElem?_cons_succ, List.getElem?_cons_zero]); rfl)
      case hf_uc1 => kernel_rfl
      case hr_uc1 => kernel_rfl
      case hQ_uc1 => exact fun _ _ _ h => h
      case hw_uc1 => rfl
      case hy_uc1 => ((intro w hSw; (try dsimp only at hSw); go_simp); all_goals (with_reducible rfl))
      try simp only [Act.put, List.setIfInBounds_toArray, List.set_cons_zero, List.set_cons_succ]
      refine UpC.take (i := 1) (oi := ?oi_uc2) (v := ?v_uc2) ?hi_uc2 (by kernel_rfl) ?hf_uc2 ?hr_uc2 (by kernel_rfl) ?hQ_uc2 (Or.inl ⟨?hw_uc2, ?hy_uc2⟩) (by assumption) ?rest_uc2
      case hi_uc2 => ((simp only [List.getElem?_toArray, List.getElem?_cons_succ, List.getElem?_cons_zero]); rfl)
      case hf_uc2 => kernel_rfl
      case hr_uc2 => kernel_rfl
      case hQ_uc2 => exact fun _ _ _ h => h
      case hw_uc2 => rfl
      case hy_uc2 => ((intro w hSw; (try dsimp only at hSw); have x0 := hSw.1.cell (j := 0) rfl; have x1 := hSw.1.cell (j := 1) rfl; have x2 := hSw.1.cell (j := 2) rfl; have x3 := hSw.1.cell (j := 3) rfl; go_simp); all_goals (with_reducible rfl))
      try simp only [Act.put, List.setIfInBounds_toArray, List.set_cons_zero, List.set_cons_succ]
      refine UpC.take (i := 2) (oi := ?oi_uc3) (v := ?v_uc3) ?hi_uc3 (by kernel_rfl) ?hf_uc3 ?hr_uc3 (by kernel_rfl) ?hQ_uc3 (Or.inl ⟨?hw_uc3, ?hy_uc3⟩) (by assumption) ?rest_uc3
      case hi_uc3 => ((simp only [List.getElem?_toArray, List.getElem?_cons_succ, List.getElem?_cons_zero]); rfl)
      case hf_uc3 => kernel_rfl
      case hr_uc3 => kernel_rfl
      case hQ_uc3 => exact fun _ _ _ h => h
      case hw_uc3 => rfl
      case hy_uc3 => ((intro w hSw; (try dsimp only at hSw); go_simp); all_goals (with_reducible rfl))
      try simp only [Act.put, List.setIfInBounds_toArray, List.set_cons_zero, List.set_cons_succ]
      have HZ7 := Lib.hid (HZ6.out.later hHeld.2)
      have HB7 := Lib.hid (belStep HB6.out hHeld.2)
      have k0 := HZ7.out.cell (j := 0) rfl
      have k1 := HZ7.out.cell (j := 1) rfl
      have k2 := HZ7.out.cell (j := 2) rfl
      have k3 := HZ7.out.cell (j := 3) rfl
      have kf := HZ7.out.frozen
      refine UpC.one (i := 3) (o := ?o_uc4) (by kernel_rfl) ?hi_uc4 (fun K hK => ?rest_uc4)
      case hi_uc4 => ((simp only [List.getElem?_toArray, List.getElem?_cons_succ, List.getElem?_cons_zero]); rfl)
      go_simp
      refine hK.out _ _ (fun q => absurd q (by decide)) (fun _ => ?_)
      clear hK K
      try simp only [Act.put, List.setIfInBounds_toArray, List.set_cons_zero, List.set_cons_succ]
      refine UpC.one (i := 4) (o := ?o_uc5) (by kernel_rfl) ?hi_uc5 (fun K hK => ?rest_uc5)
      case hi_uc5 => ((simp only [List.getElem?_toArray, List.getElem?_cons_succ, List.getElem?_cons_zero]); rfl)
      go_simp
      refine hK.out _ _ (fun q => absurd q (by decide)) (fun _ => ?_)
      clear hK K
      try simp only [Act.put, List.setIfInBounds_toArray, List.set_cons_zero, List.set_cons_succ]
      refine UpC.done (by kernel_rfl) ?_ _
      go_wp2
      rw [HN.out.1, HN.out.2.1, HN.out.2.2]
      exact bodyPost_ret (read_fin (Blk.set ((Blk.set ((Blk.set ((Blk.set (HZ7.out) 0 (.int .i64 e.kind))) 1 (.string e.id))) 2 (.int .i64 e.sig))) 3 (.int .i64 e.n)) _ rfl rfl rfl) rfl ⟨rfl, (belLow6 ((belLow6 ((belLow6 ((belLow6 (HB7.out) ⟨w.heap.size, 0, none⟩ (.int .i64 e.kind) (Nat.le_refl _))) ⟨w.heap.size, 1, none⟩ (.string e.id) (Nat.le_refl _))) ⟨w.heap.size, 2, none⟩ (.int .i64 e.sig) (Nat.le_refl _))) ⟨w.heap.size, 3, none⟩ (.int .i64 e.n) (Nat.le_refl _))⟩
    · have HN := Lib.hid (rd_no (s := s) (by rw [HW.out]; simp only; rw [hln]; exact fun q => ht (Option.some.inj q)))
      have t1 : ((bA t).toList == s.toList) = false := by rw [bA_toL, sl, beq_eq_false_iff_ne]; exact ht
      have t2 : ((bA t).toList != s.toList) = true := by rw [bA_toL, sl, bne_iff_ne]; exact ht
      clear hln ht
      go_wp2_with (go_at_call 11; (with_reducible refine (CL.out).mono ?_); rintro e9 w6 ⟨rfl, hb6⟩; have HZ6 := Lib.hid (HZ5.out.later hb6); have HB6 := Lib.hid (belStep HB5.out hb6); have HA6 := Lib.hid (HA.out.later hb6); have z0 := HZ6.out.cell (j := 0) rfl; have y0 := HA6.out.cell (j := 0) rfl; have z1 := HZ6.out.cell (j := 1) rfl; have y1 := HA6.out.cell (j := 1) rfl; have z2 := HZ6.out.cell (j := 2) rfl; have y2 := HA6.out.cell (j := 2) rfl; have z3 := HZ6.out.cell (j := 3) rfl; have y3 := HA6.out.cell (j := 3) rfl; have zf := HZ6.out.frozen; clear hb6)
      rw [HN.out.1, HN.out.2.1, HN.out.2.2]
      exact bodyPost_ret (read_fin (Blk.set ((Blk.set ((Blk.set ((Blk.set (HZ6.out) 0 (.int .i64 0))) 1 (.string ⟨#[]⟩))) 2 (.int .i64 0))) 3 (.int .i64 0)) _ rfl rfl rfl) rfl ⟨rfl, (belLow6 ((belLow6 ((belLow6 ((belLow6 (HB6.out) ⟨w.heap.size, 0, none⟩ (.int .i64 0) (Nat.le_refl _))) ⟨w.heap.size, 1, none⟩ (.string ⟨#[]⟩) (Nat.le_refl _))) ⟨w.heap.size, 2, none⟩ (.int .i64 0) (Nat.le_refl _))) ⟨w.heap.size, 3, none⟩ (.int .i64 0) (Nat.le_refl _))⟩
end Go.Proofs.YtekakalhknjdaaaDoor
