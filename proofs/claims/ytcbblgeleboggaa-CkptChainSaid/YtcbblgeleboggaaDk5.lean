
/- Stage 10: disk.Sync, Open, Do: contracts. -/
import Derived.Test.YtcbblgeleboggaaDk4
import Derived.Test.YtcbblgeleboggaaLast
import Derived.Test.YtcbblgeleboggaaUpc
namespace Go.Proofs.Ytcbblgeleboggaa
open Go.RowKit Go.Sort Go.Maps Go.WideMaps
set_option linter.unusedVariables false
set_option linter.unusedSimpArgs false
theorem info_opI : (Try.prog.info? 49).map (fun i => (i.zero, i.size, i.bytes)) = some (some (.agg #[.int .i64 0, .string ⟨#[]⟩, .string ⟨#[]⟩, .slice none 0 0]), 4, 64) := by kernel_rfl
theorem ops_one (L : List OpV) : ∀ v ∈ L.flatMap OpV.cells, v.oneCell' = true := fun v hv => by
  obtain ⟨x, _, hx⟩ := List.mem_flatMap.1 hv
  simp only [OpV.cells, List.mem_cons, List.not_mem_nil, or_false] at hx
  rcases hx with rfl | rfl | rfl | rfl <;> rfl
theorem op_one (o : OpV) : ∀ v ∈ o.cells, v.oneCell' = true := fun v hv => ops_one [o] v (by simpa using hv)
section
variable {P : Program} {w : World} {o : Oper} {a : Act} {K : Act → World → Prop} {Q : Exit → Act → World → Prop} {E : Prop}
/-- 'append(own, row...)' as one operation; what is let alone is told, too. -/
theorem op_appM {ops : Array Oper} {tm : Array Value} (hg : o.guard = none) (s x : Operand) (t : TypeId)
    (ho : o.op = .call { callee := .builtin .append, args := #[s, x], argTypes := #[t, t] })
    (B : Nat) (e : TypeId) (z : Value) (size bytes : Nat) (ht : P.underlying t = some (.slice e)) (hi : (P.info? e).map (fun i => (i.zero, i.size, i.bytes)) = some (some z, size, bytes))
    (hzs : z.cells.size = size) (hsz : 0 < size)
    (v : Value) (n : Nat) (cs : List Value) (hs : a.eval s = v) (hown : OwnR w B e size v n cs)
    (ad : Addr) (len cap : Nat) (ds : List Value) (hx : a.eval x = .slice (some ad) len cap) (hr : Row w (some ad) len cap size ds) (hone : ∀ u ∈ ds, u.oneCell' = true)
    (hm : n + len ≤ maxLen) (hby : (n + len) * bytes ≤ 140737488355328) (hB : B ≤ w.heap.size)
    (h : ∀ v' w', OwnR w' B e size v' (n + len) (cs ++ ds) → w.grownBy w' v.ownBlock → Moved w v v' → K (a.put o.dst v') w') : if Region.wanted o (yielded ops tm) = true then Oper.wp P o a w K Q else E := by
  have hw : Region.wanted o (yielded ops tm) = true := by simp [Region.wanted, hg]
  rw [if_pos hw]
  obtain ⟨i, hi0, hz, hszi, hbs⟩ : ∃ i, P.info? e = some i ∧ i.zero = some z ∧ i.size = size ∧ i.bytes = bytes := by
    cases hp : P.info? e with
    | none => rw [hp] at hi; simp at hi
    | some i => rw [hp] at hi; simp at hi; exact ⟨i, rfl, hi.1, hi.2.1, hi.2.2⟩
  have hnews := row_news hr
  obtain ⟨r1, r2, r3, r4, r5⟩ := hr
  obtain ⟨v', w', hrun, h2, h3, _⟩ := run_append_own (P := P) w B t o.type e i z size bytes ht hi0 hz hszi hbs hzs hsz v n cs hown ad len cap ds r1 hnews hone hm hby hB
  have hmv := run_app_moved w t o.type B e i z size ht hi0 hz hszi hzs hsz v n cs hown ad len cap ds r1 hnews hone hm (by rw [hbs]; exact hby) hrun
  unfold Oper.wp execOp
  simp only [ho, resolve, invoke, builtin, Sem.run_bind, Sem.run_pure, Result.andThen_ok, List.map_toArray, List.map_cons, List.map_nil, hs, hx, hrun]
  exact h v' w' h2 h3 hmv
end
theorem row_first_neD {u : World} {a : Option Addr} {n c k : Nat} {y : Value} {l : List Value} (hr : Row u a n c k (y :: l)) {b : Nat} {C : List Value} {T : TypeId} (hb : Blk u b C T) (hy : y ∉ C) {x : Addr} (ex : a = some x) : x.block ≠ b := by
  obtain ⟨_, _, _, _, h5⟩ := hr
  rcases h5 with h5 | ⟨g, o, e2, h5⟩
  · cases h5
  · rw [ex] at e2
    cases e2
    intro e
    have h6 := h5 0 (by simp)
    subst e
    unfold World.cell? at h6
    unfold Blk at hb
    rw [hb] at h6
    simp at h6
    exact hy (List.mem_of_getElem? h6)
/-- A disk behind a sync or a crash: a new map, nothing open. -/
theorem dat_new {u x w : World} {M mb n : Nat} {X F : List Nat} {d : DiskV} {L : List FileM} {D : DataW Value} {cap : Nat} (h : DAt u M X F d) (hX : ∀ b ∈ X, b < u.heap.size) (hb : Below u.heap.size u x) (ho : x.ownsMap Try.prog 9 RH mb n D) (hn : n ≤ cap) (hl : Link (X ++ F) x D L) (hmb : u.heap.size ≤ mb)
    (e : (x.setCell ⟨M, 0, none⟩ (.map (some mb))).setCell ⟨M, 1, none⟩ (.slice none 0 0) = w) : DTo u w M X F ⟨L, [], cap⟩ := by
  subst e
  have hlt := h.lt
  obtain ⟨p, v, T, rfl, h2, h3, h4, h5, h6, h7⟩ := h
  have hMF : M ∈ footD M v := footD_mem.2 (.inl rfl)
  have hA : Apart [M] x ((x.setCell ⟨M, 0, none⟩ (.map (some mb))).setCell ⟨M, 1, none⟩ (.slice none 0 0)) := ((Apart.refl [M] x).set _ _ (by simp)).set _ _ (by simp)
  have hsub : ∀ b ∈ X ++ footD M (.slice none 0 0), b ∈ X ++ footD M v := fun b hb => by
    rcases List.mem_append.1 hb with q | q
    · exact List.mem_append_left _ q
    · rcases footD_mem.1 q with rfl | q
      · exact List.mem_append_right _ hMF
      · cases q
  refine ⟨footD M (.slice none 0 0), ⟨some mb, .slice none 0 0, [], rfl, ((h2.later hb).set 0 (.map (some mb))).set 1 (.slice none 0 0), .inr ⟨mb, n, D, rfl, hn, ownsMap_same ho (hA.block mb ho.lt (fun q => by simp only [List.mem_singleton] at q; subst q; have := (hlt mb hMF).2; omega)), hl.conv (fun a c Z q => (q.apart hA (fun b hb => by simp only [List.mem_singleton] at hb; subst hb; exact List.mem_append_right _ hMF)).more (fun b hb => .inl (hsub b hb))), fun q => ?_⟩, OwnR.nil _ _ _ _, rfl, (fun o ho => by cases ho), (fun b hb hF => ?_)⟩, (Apart.of_below hb).trans (hA.weaken (fun b hb => by simp only [List.mem_singleton] at hb; subst hb; exact hMF)), fun b hb => ?_⟩
  · rcases List.mem_append.1 q with r | r
    · have := hX mb r; omega
    · rcases footD_mem.1 r with r | r
      · have := (hlt M hMF).2; omega
      · cases r
  · rcases footD_mem.1 hF with r | r
    · subst r; exact h7 _ hb hMF
    · cases r
  · rcases footD_mem.1 hb with r | r
    · subst r; exact .inl hMF
    · cases r
theorem DTo.from {w u x : World} {M : Nat} {X F : List Nat} {d : DiskV} (h : DTo u x M X F d) (hb : Below w.heap.size w u) : DTo w x M X F d := by
  obtain ⟨G, h1, h2, h3⟩ := h
  exact ⟨G, h1, (Apart.of_below hb).trans h2, fun b hb2 => (h3 b hb2).imp id (fun z => Nat.le_trans hb.size z)⟩
theorem dat_do {u x y z : World} {M : Nat} {X : List Nat} {p : Option Nat} {oa va : Option Addr} {oc vc : Nat} {T : List OpV} {d : DiskV} {q : OpV}
    (hb : Blk u M [.map p, .slice oa T.length oc] 61) (hp : PMap (X ++ footD M (.slice oa T.length oc)) u p d.files d.cap) (ho : OwnR u M 49 4 (.slice oa T.length oc) T.length (T.flatMap OpV.cells)) (hT : T.map OpV.m = d.done)
    (hz : ∀ o ∈ T, BytesX (X ++ footD M (.slice oa T.length oc)) u o.ba o.bc o.Z ∧ o.small) (hXF : ∀ b ∈ X, b ∉ footD M (.slice oa T.length oc)) (hX : ∀ b ∈ X, b < u.heap.size) (hbel : Below u.heap.size u x)
    (ho7 : OwnR y M 49 4 (.slice va (T.length + 1) vc) (T.length + 1) (T.flatMap OpV.cells ++ q.cells)) (hg : x.grownBy y (Value.slice oa T.length oc).ownBlock) (hm : Moved x (.slice oa T.length oc) (.slice va (T.length + 1) vc))
    (hq : BytesX (X ++ footD M (.slice oa T.length oc)) u q.ba q.bc q.Z) (hqs : q.small) (e : y.setCell ⟨M, 1, none⟩ (.slice va (T.length + 1) vc) = z) : DTo u z M X (footD M (.slice oa T.length oc)) { d with done := d.done ++ [q.m] } := by
  subst e
  obtain ⟨F, hF⟩ : ∃ F, footD M (.slice oa T.length oc) = F := ⟨_, rfl⟩
  obtain ⟨G, hG⟩ : ∃ G, footD M (.slice va (T.length + 1) vc) = G := ⟨_, rfl⟩
  have hMF : M ∈ F := hF ▸ footD_mem.2 (.inl rfl)
  have hrow : ∀ b, (Value.slice oa T.length oc).ownBlock = some b → b ∈ F := fun b e => hF ▸ footD_mem.2 (.inr e)
  have hGF : ∀ b ∈ G, b ∈ F ∨ u.heap.size ≤ b := fun b hb2 => by
    rw [← hG] at hb2
    rcases footD_mem.1 hb2 with rfl | e
    · exact .inl hMF
    · rcases hm b e with r | r
      · exact .inl (hrow b r)
      · exact .inr (Nat.le_trans hbel.size r)
  rw [hF] at hp hz hXF hq
  have hbx := hb.later hbel
  have hox := OwnR.later ho hbel
  have hne := own_ne_blk hox hbx (by decide)
  have hne7 : (Value.slice va (T.length + 1) vc).ownBlock ≠ some M := own_ne_blk ho7 (hbx.grown hg hne) (by decide)
  have hA : Apart F u (y.setCell ⟨M, 1, none⟩ (.slice va (T.length + 1) vc)) := ((Apart.of_below hbel).trans (Apart.of_grown hg hrow)).set ⟨M, 1, none⟩ _ hMF
  have hBy : ∀ a c Z, BytesX (X ++ F) u a c Z → BytesX (X ++ G) (y.setCell ⟨M, 1, none⟩ (.slice va (T.length + 1) vc)) a c Z := fun a c Z h =>
    ((h.more (Y := (X ++ F) ++ G) (fun b hb2 => by
      rcases List.mem_append.1 hb2 with r | r
      · exact .inl r
      · exact (hGF b r).imp (fun s => List.mem_append_right X s) id)).apart hA (fun b hb2 => List.mem_append_left _ (List.mem_append_right X hb2))).more (fun b hb2 => by
      rcases List.mem_append.1 hb2 with r | r
      · exact .inl (List.mem_append_left _ (List.mem_append_left _ r))
      · exact .inl (List.mem_append_right _ r))
  refine ⟨G, ⟨p, .slice va (T.length + 1) vc, T ++ [q], hG.symm, (hbx.grown hg hne).set 1 _, hp.conv hBy (fun b hb2 hn => ⟨hA.block b hb2 (fun r => hn (List.mem_append_right X r)), fun r => ?_⟩), ?_, by rw [List.map_append, hT]; rfl, ?_, ?_⟩, hF ▸ hA, fun b hb2 => hF ▸ hGF b hb2⟩
  · rcases List.mem_append.1 r with s | s
    · exact hn (List.mem_append_left _ s)
    · exact (hGF b s).elim (fun t => hn (List.mem_append_right X t)) (fun t => by omega)
  · have h9 := own_same ho7 (x := y.setCell ⟨M, 1, none⟩ (.slice va (T.length + 1) vc)) (fun g e => heap_set_ne _ _ _ _ (fun q => hne7 (by rw [e]; simp only at q; rw [q])))
    rw [List.length_append, List.flatMap_append, List.flatMap_cons, List.flatMap_nil, List.append_nil]
    exact h9
  · intro o ho2
    rcases List.mem_append.1 ho2 with r | r
    · exact ⟨hBy _ _ _ (hz o r).1, (hz o r).2⟩
    · rw [List.mem_singleton] at r; subst r; exact ⟨hBy _ _ _ hq, hqs⟩
  · intro b hb2 hb3
    rcases hGF b hb3 with r | r
    · exact hXF b hb2 r
    · have := hX b hb2; omega
set_option maxRecDepth 100000 in
set_option maxHeartbeats 16000000 in
theorem dk_Sync (M : Nat) (X F : List Nat) (d : DiskV) (w : World) (h : DAt w M X F d) (hX : ∀ b ∈ X, b < w.heap.size) (hc : d.cap + d.done.length ≤ 100000) :
    Calls Try.prog 22 #[.pointer (some ⟨M, 0, none⟩)] w fun e w' => e = .returned (.tuple #[]) ∧ DTo w w' M X F (syncW d) := by
  have HD := Lib.hid h
  have HX := Lib.hid hX
  have CL := Lib.hid (dk_look M X F d w h hc)
  obtain ⟨p, v, T, rfl, hb, _⟩ := h
  have HBK := Lib.hid hb
  clear hb hX
  go_enter Try.func22, Try.ntmps22
  go_upto_region 1 with (go_at_call 27; (with_reducible refine (CL.out).mono ?_); rintro e w1 ⟨mb, n, D, rfl, hn_, ho_, hl_, hg_, hb_⟩; have HN := Lib.hid hn_; have HO := Lib.hid ho_; have HL := Lib.hid hl_; have HB := Lib.hid hb_; have HGE := Lib.hid hg_; have m0 := (HBK.out.later hb_).cell (j := 0) rfl; have m1 := (HBK.out.later hb_).cell (j := 1) rfl; have mf := (HBK.out.later hb_).frozen; clear hn_ ho_ hl_ hg_ hb_)
  go_wp2
  go_end0
  exact ⟨rfl, dat_new HD.out HX.out HB.out HO.out HN.out HL.out HGE.out rfl⟩
set_option maxRecDepth 100000 in
set_option maxHeartbeats 16000000 in
theorem dk_Open (M : Nat) (X F : List Nat) (d : DiskV) (w : World) (h : DAt w M X F d) :
    Calls Try.prog 17 #[.pointer (some ⟨M, 0, none⟩)] w fun e w' => e = .returned (.int .i64 (d.done.length : Int)) ∧ w' = w := by
  obtain ⟨p, v, T, rfl, hb, _, ho, hT, _⟩ := h
  obtain ⟨oa, oc, rfl, hr⟩ := rowR_of_own ho
  have hbr : T.length ≤ oc ∧ oc ≤ 9223372036854775807 := by obtain ⟨_, h1, h2, _⟩ := hr; unfold maxLen at h2; exact ⟨h1, h2⟩
  obtain ⟨hbr1, hbr2⟩ := hbr
  have m1 := hb.cell (j := 1) rfl
  have HT := Lib.hid (show d.done.length = T.length by rw [← hT, List.length_map])
  clear hb ho hr hT
  go_enter Try.func17, Try.ntmps17
  go_wp2
  go_ret
  exact ⟨by rw [HT.out]; rfl, rfl⟩
set_option maxRecDepth 100000 in
set_option maxHeartbeats 32000000 in
theorem dk_Do (M : Nat) (X F : List Nat) (d : DiskV) (w : World) (h : DAt w M X F d) (hX : ∀ b ∈ X, b < w.heap.size) (hc : d.cap + d.done.length ≤ 100000) (o : OpV) (hZ : Ints .u8 w o.ba o.Z.length o.bc o.Z) (hl : o.Z.length ≤ 1000000) (hs : o.small) :
    Calls Try.prog 21 #[.pointer (some ⟨M, 0, none⟩), .agg #[.int .i64 o.kind, .string o.name, .string o.dst, .slice o.ba o.Z.length o.bc]] w fun e w' => e = .returned (.int .i64 (doE o.m)) ∧ DTo w w' M X F (doW d o.m) := by
  have HD := Lib.hid h
  have HX := Lib.hid hX
  have HZ := Lib.hid hZ
  have hbd : o.Z.length ≤ o.bc ∧ o.bc ≤ 9223372036854775807 := by obtain ⟨⟨_, h1, h2, _⟩, _⟩ := hZ; unfold maxLen at h2; exact ⟨h1, h2⟩
  obtain ⟨hbd1, hbd2⟩ := hbd
  obtain ⟨hs1, hs2, hs3⟩ := hs
  have HS1 := Lib.hid hs1
  have HS2 := Lib.hid hs2
  have HS3 := Lib.hid hs3
  clear hZ hX h hs1 hs2 hs3
  have hw : Below w.heap.size w w := Below.refl _ _
  go_enter Try.func21, Try.ntmps21
  go_upto_region 1 with fail
  have kA := belAlloc (Below.refl w.heap.size w) (.cells #[.int .i64 o.kind, .string o.name, .string o.dst, .slice o.ba o.Z.length o.bc] 49)
  have HA := Lib.hid (Blk.new w [.int .i64 o.kind, .string o.name, .string o.dst, .slice o.ba o.Z.length o.bc] 49)
  have HB1 := Lib.hid kA
  clear kA hw
  generalize (w.alloc (.cells #[.int .i64 o.kind, .string o.name, .string o.dst, .slice o.ba o.Z.length o.bc] 49)) = W1 at *
  have a0 := HA.out.cell (j := 0) rfl
  have a1 := HA.out.cell (j := 1) rfl
  have a2 := HA.out.cell (j := 2) rfl
  have a3 := HA.out.cell (j := 3) rfl
  have CO := Lib.hid (dk_own o W1 (HZ.out.later HB1.out) hl HS1.out HS2.out HS3.out)
  obtain ⟨rt, hrt⟩ : ∃ z, rightM o.m = z := ⟨_, rfl⟩
  rw [hrt] at CO
  have HRT := Lib.hid hrt
  clear hrt
  go_upto_region 2 with (go_at_call 38; (with_reducible refine (CO.out).mono ?_); rintro e w2 ⟨q, rfl, hq_, hsm_, hbx_, hb_⟩; have HQ := Lib.hid hq_; have HSM := Lib.hid hsm_; have HBX := Lib.hid hbx_; have HB2 := Lib.hid (belStep HB1.out hb_); have HBw := Lib.hid hb_; clear hq_ hsm_ hbx_ hb_)
  have kQ := belAlloc (Below.refl w2.heap.size w2) (.cells #[.int .i64 q.kind, .string q.name, .string q.dst, .slice q.ba q.Z.length q.bc] 49)
  have HQB := Lib.hid (Blk.new w2 [.int .i64 q.kind, .string q.name, .string q.dst, .slice q.ba q.Z.length q.bc] 49)
  have HB3 := Lib.hid (belStep HB2.out kQ)
  have HQZ := Lib.hid (fun X (hX : ∀ b ∈ X, b < W1.heap.size) => (HBX.out X hX).later kQ)
  clear kQ a0 a1 a2 a3 HB2 HBX CO
  generalize w2.alloc (.cells #[.int .i64 q.kind, .string q.name, .string q.dst, .slice q.ba q.Z.length q.bc] 49) = W3 at *
  have hxb : w.heap.size ≤ w2.heap.size := Nat.le_trans HB1.out.size HBw.out.size
  generalize w2.heap.size = xb at *
  cases rt with
  | false =>
    go_wp2
    go_ret
    have HE := HRT.out
    exact ⟨by unfold doE; rw [HE]; rfl, by unfold doW; rw [HE]; exact DTo.refl HD.out HB3.out⟩
  | true =>
    have HD3 := Lib.hid (HD.out.later HB3.out)
    have HNF := Lib.hid HD.out.lt
    obtain ⟨p, v, T, rfl, hb, hp, ho, hT, hz, hXF⟩ := HD3.out
    obtain ⟨oa, oc, rfl, hr⟩ := rowR_of_own ho
    have hbr : T.length ≤ oc ∧ oc ≤ 9223372036854775807 := by obtain ⟨_, h1, h2, _⟩ := hr; unfold maxLen at h2; exact ⟨h1, h2⟩
    obtain ⟨hbr1, hbr2⟩ := hbr
    have HM := Lib.hid hb
    have HO := Lib.hid ho
    have HP := Lib.hid hp
    have HT := Lib.hid hT
    have HZT := Lib.hid hz
    have HXF := Lib.hid hXF
    have hTl1 : T.length = d.done.length := by rw [← hT, List.length_map]
    have hTl : T.length ≤ 100000 := by omega
    clear hTl1
    have HML := Lib.hid hb.lt
    clear hb hp ho hT hz hXF hr
    go_upto_region 4 with fail
    refine wp_region_upc (S := fun u => Blk u M [.map p, .slice oa T.length oc] 61 ∧ Blk u xb [.int .i64 q.kind, .string q.name, .string q.dst, .slice q.ba q.Z.length q.bc] 49) [10] (by kernel_rfl) (by exact ⟨HM.out.later (belDrew (Below.refl _ _)), HQB.out.later (belDrew (Below.refl _ _))⟩) (fun hHeld => ?_)
    refine UpC.take (i := 0) (oi := ?oi_uc1) (v := ?v_uc1) ?hi_uc1 (by kernel_rfl) ?hf_uc1 ?hr_uc1 (by kernel_rfl) ?hQ_uc1 (Or.inl ⟨?hw_uc1, ?hy_uc1⟩) (by assumption) ?rest_uc1
    case hi_uc1 => ((simp only [List.getElem?_toArray, List.getElem?_cons_succ, List.getElem?_cons_zero]); rfl)
    case hf_uc1 => kernel_rfl
    case hr_uc1 => kernel_rfl
    case hQ_uc1 => exact fun _ _ _ h => h
    case hw_uc1 => rfl
    case hy_uc1 => ((intro w hSw; (try dsimp only at hSw); go_simp); all_goals (with_reducible rfl))
    try simp only [Act.put, List.setIfInBounds_toArray, List.set_cons_zero, List.set_cons_succ]
    refine UpC.take (i := 1) (oi := ?oi_uc2) (v := ?v_uc2) ?hi_uc2 (by kernel_rfl) ?hf_uc2 ?hr_uc2 (by kernel_rfl) ?hQ_uc2 (Or.inl ⟨?hw_uc2, ?hy_uc2⟩) (by assumption) ?rest_uc2
    case hi_uc2 => ((simp only [List.getElem?_toArray, List.getElem?_cons_succ, List.getElem?_cons_zero]); rfl)
    case hf_uc2 => kernel_rfl
    case hr_uc2 => kernel_rfl
    case hQ_uc2 => exact fun _ _ _ h => h
    case hw_uc2 => rfl
    case hy_uc2 => ((intro w hSw; (try dsimp only at hSw); go_simp); all_goals (with_reducible rfl))
    try simp only [Act.put, List.setIfInBounds_toArray, List.set_cons_zero, List.set_cons_succ]
    refine UpC.take (i := 2) (oi := ?oi_uc3) (v := ?v_uc3) ?hi_uc3 (by kernel_rfl) ?hf_uc3 ?hr_uc3 (by kernel_rfl) ?hQ_uc3 (Or.inl ⟨?hw_uc3, ?hy_uc3⟩) (by assumption) ?rest_uc3
    case hi_uc3 => ((simp only [List.getElem?_toArray, List.getElem?_cons_succ, List.getElem?_cons_zero]); rfl)
    case hf_uc3 => kernel_rfl
    case hr_uc3 => kernel_rfl
    case hQ_uc3 => exact fun _ _ _ h => h
    case hw_uc3 => rfl
    case hy_uc3 => ((intro w hSw; (try dsimp only at hSw); go_simp); all_goals (with_reducible rfl))
    try simp only [Act.put, List.setIfInBounds_toArray, List.set_cons_zero, List.set_cons_succ]
    refine UpC.take (i := 3) (oi := ?oi_uc4) (v := ?v_uc4) ?hi_uc4 (by kernel_rfl) ?hf_uc4 ?hr_uc4 (by kernel_rfl) ?hQ_uc4 (Or.inl ⟨?hw_uc4, ?hy_uc4⟩) (by assumption) ?rest_uc4
    case hi_uc4 => ((simp only [List.getElem?_toArray, List.getElem?_cons_succ, List.getElem?_cons_zero]); rfl)
    case hf_uc4 => kernel_rfl
    case hr_uc4 => kernel_rfl
    case hQ_uc4 => exact fun _ _ _ h => h
    case hw_uc4 => rfl
    case hy_uc4 => ((intro w hSw; (try dsimp only at hSw); go_simp); all_goals (with_reducible rfl))
    try simp only [Act.put, List.setIfInBounds_toArray, List.set_cons_zero, List.set_cons_succ]
    refine UpC.take (i := 4) (oi := ?oi_uc5) (v := ?v_uc5) ?hi_uc5 (by kernel_rfl) ?hf_uc5 ?hr_uc5 (by kernel_rfl) ?hQ_uc5 (Or.inl ⟨?hw_uc5, ?hy_uc5⟩) (by assumption) ?rest_uc5
    case hi_uc5 => ((simp only [List.getElem?_toArray, List.getElem?_cons_succ, List.getElem?_cons_zero]); rfl)
    case hf_uc5 => kernel_rfl
    case hr_uc5 => kernel_rfl
    case hQ_uc5 => exact fun _ _ _ h => h
    case hw_uc5 => rfl
    case hy_uc5 => ((intro w hSw; (try dsimp only at hSw); (have m1 := hSw.1.cell (j := 1) rfl; have x0 := hSw.2.cell (j := 0) rfl; have x1 := hSw.2.cell (j := 1) rfl; have x2 := hSw.2.cell (j := 2) rfl; have x3 := hSw.2.cell (j := 3) rfl); go_simp); all_goals (with_reducible rfl))
    try simp only [Act.put, List.setIfInBounds_toArray, List.set_cons_zero, List.set_cons_succ]
    refine UpC.take (i := 5) (oi := ?oi_uc6) (v := ?v_uc6) ?hi_uc6 (by kernel_rfl) ?hf_uc6 ?hr_uc6 (by kernel_rfl) ?hQ_uc6 (Or.inl ⟨?hw_uc6, ?hy_uc6⟩) (by assumption) ?rest_uc6
    case hi_uc6 => ((simp only [List.getElem?_toArray, List.getElem?_cons_succ, List.getElem?_cons_zero]); rfl)
    case hf_uc6 => kernel_rfl
    case hr_uc6 => kernel_rfl
    case hQ_uc6 => exact fun _ _ _ h => h
    case hw_uc6 => rfl
    case hy_uc6 => ((intro w hSw; (try dsimp only at hSw); (have m1 := hSw.1.cell (j := 1) rfl; have x0 := hSw.2.cell (j := 0) rfl; have x1 := hSw.2.cell (j := 1) rfl; have x2 := hSw.2.cell (j := 2) rfl; have x3 := hSw.2.cell (j := 3) rfl); go_simp); all_goals (with_reducible rfl))
    try simp only [Act.put, List.setIfInBounds_toArray, List.set_cons_zero, List.set_cons_succ]
    refine UpC.one (i := 6) (o := ?o_uc7) (by kernel_rfl) ?hi_uc7 (fun K hK => ?rest_uc7)
    case hi_uc7 => ((simp only [List.getElem?_toArray, List.getElem?_cons_succ, List.getElem?_cons_zero]); rfl)
    go_simp
    have k6 : Below W3.heap.size W3 (W3.alloc (.cells #[.int .i64 q.kind, .string q.name, .string q.dst, .slice q.ba q.Z.length q.bc] 49)).drew := belDrew (belAlloc (Below.refl W3.heap.size W3) (.cells #[.int .i64 q.kind, .string q.name, .string q.dst, .slice q.ba q.Z.length q.bc] 49))
    have HRW := Lib.hid ((row_new W3 [.int .i64 q.kind, .string q.name, .string q.dst, .slice q.ba q.Z.length q.bc] 49 1 4 rfl (by unfold maxLen; omega)).later (belDrew (Below.refl _ _)))
    have HK6 := Lib.hid k6
    clear k6
    refine hK.out _ _ (fun _ _ => by exact ⟨HM.out.later HK6.out, HQB.out.later HK6.out⟩) (fun hHeld0 => ?_)
    replace hHeld := hHeld0 (by decide) hHeld
    clear hK K hHeld0
    try simp only [Act.put, List.setIfInBounds_toArray, List.set_cons_zero, List.set_cons_succ]
    have HO6 := Lib.hid (OwnR.later HO.out HK6.out)
    refine UpC.one (i := 7) (o := ?o_uc8) (by kernel_rfl) ?hi_uc8 (fun K hK => ?rest_uc8)
    case hi_uc8 => ((simp only [List.getElem?_toArray, List.getElem?_cons_succ, List.getElem?_cons_zero]); rfl)
    refine op_appM rfl _ _ 59 rfl M 49 _ 4 64 Try.underlying59 info_opI rfl (by decide) (.slice oa T.length oc) T.length (T.flatMap OpV.cells) (by rfl) HO6.out ⟨W3.heap.size, 0, none⟩ 1 1 [.int .i64 q.kind, .string q.name, .string q.dst, .slice q.ba q.Z.length q.bc] (by rfl) HRW.out (op_one q) (by unfold maxLen; omega) (by omega) (by have h1 := HML.out; have h2 := HK6.out.size; omega) ?_
    intro v7 w7 ho7 hg7 hm7
    obtain ⟨va, vc, rfl, _⟩ := rowR_of_own ho7
    have HM7 := Lib.hid ((HM.out.later HK6.out).grown hg7 (own_ne_blk HO6.out (HM.out.later HK6.out) (by decide)))
    have HQ7 := Lib.hid ((HQB.out.later HK6.out).grown hg7 (fun e9 => by have h1 := (HNF.out xb (footD_mem.2 (.inr e9))).2; omega))
    refine hK.out _ _ (fun _ _ => by exact ⟨HM7.out, HQ7.out⟩) (fun hHeld0 => ?_)
    replace hHeld := hHeld0 (by decide) hHeld
    clear hK K hHeld0
    try simp only [Act.put, List.setIfInBounds_toArray, List.set_cons_zero, List.set_cons_succ]
    refine UpC.pure (i := 8) (oi := ?oi_uc9) (v := ?v_uc9) ?hi_uc9 (by kernel_rfl) ?hf_uc9 ?hr_uc9 ?hQ_uc9 (Or.inl ⟨?hw_uc9, ?hy_uc9⟩) ?rest_uc9
    case hi_uc9 => ((simp only [List.getElem?_toArray, List.getElem?_cons_succ, List.getElem?_cons_zero]); rfl)
    case hf_uc9 => kernel_rfl
    case hr_uc9 => kernel_rfl
    case hQ_uc9 => exact fun _ _ _ h => h
    case hw_uc9 => rfl
    case hy_uc9 => ((intro w hSw; (try dsimp only at hSw); go_simp); all_goals (with_reducible rfl))
    try simp only [Act.put, List.setIfInBounds_toArray, List.set_cons_zero, List.set_cons_succ]
    refine UpC.pure (i := 9) (oi := ?oi_uc10) (v := ?v_uc10) ?hi_uc10 (by kernel_rfl) ?hf_uc10 ?hr_uc10 ?hQ_uc10 (Or.inl ⟨?hw_uc10, ?hy_uc10⟩) ?rest_uc10
    case hi_uc10 => ((simp only [List.getElem?_toArray, List.getElem?_cons_succ, List.getElem?_cons_zero]); rfl)
    case hf_uc10 => kernel_rfl
    case hr_uc10 => kernel_rfl
    case hQ_uc10 => exact fun _ _ _ h => h
    case hw_uc10 => rfl
    case hy_uc10 => ((intro w hSw; (try dsimp only at hSw); go_simp); all_goals (with_reducible rfl))
    try simp only [Act.put, List.setIfInBounds_toArray, List.set_cons_zero, List.set_cons_succ]
    have m0 := HM7.out.cell (j := 0) rfl
    have m1 := HM7.out.cell (j := 1) rfl
    have mf := HM7.out.frozen
    refine UpC.one (i := 10) (o := ?o_uc11) (by kernel_rfl) ?hi_uc11 (fun K hK => ?rest_uc11)
    case hi_uc11 => ((simp only [List.getElem?_toArray, List.getElem?_cons_succ, List.getElem?_cons_zero]); rfl)
    go_simp
    refine hK.out _ _ (fun q => absurd q (by decide)) (fun _ => ?_)
    clear hK K
    try simp only [Act.put, List.setIfInBounds_toArray, List.set_cons_zero, List.set_cons_succ]
    refine UpC.done (by kernel_rfl) ?_ _
    go_wp2
    go_ret
    have HE := HRT.out
    have hDO := dat_do (q := q) HM.out HP.out HO.out HT.out HZT.out HXF.out (fun b hb => Nat.lt_of_lt_of_le (HX.out b hb) HB3.out.size) HK6.out ho7 hg7 hm7 (HQZ.out _ (fun b hb => by
      rcases List.mem_append.1 hb with z | z
      · exact Nat.lt_of_lt_of_le (HX.out b z) HB1.out.size
      · exact Nat.lt_of_lt_of_le (HNF.out b z).2 HB1.out.size)) HSM.out rfl
    exact ⟨by unfold doE; rw [HE]; rfl, by unfold doW; rw [HE, if_pos rfl, ← (show q.m = ownM o.m from by first | exact HQ.out trivial | exact HQ.out HE)]; exact hDO.from HB3.out⟩
end Go.Proofs.Ytcbblgeleboggaa
