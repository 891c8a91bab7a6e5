
/- state.Get: contract. -/
import Derived.Test.YtpmkhimmlpnbpaaStGetM
import Derived.Test.YtpmkhimmlpnbpaaAppS
import Derived.Test.YtpmkhimmlpnbpaaKrip
import Derived.Deep.LoopGhost
namespace Go.Proofs.Ytpmkhimmlpnbpaa
open Go.RowKit
set_option linter.unusedVariables false
set_option linter.unusedSimpArgs false
theorem get_ret (W : World) (R : Nat) (tm : Array Value) (r er : Int) (s : Value) (x y z : Bool) (Q : Ending → World → Prop) (h2 : tm.getD 2 undef = .pointer (some ⟨R, 0, none⟩)) (h3 : tm.getD 3 undef = .int .i64 er) (hb : Blk W R [.int .i64 r, s, .bool x, .bool y, .bool z] 25) (hR : Q (.returned (.tuple #[.agg #[.int .i64 r, s, .bool x, .bool y, .bool z], .int .i64 er])) W) :
    bodyPost Try.prog Try.f18 Q Exit.ret { tmps := tm, defers := [] } W := by
  have z0 := hb.cell (j := 0) rfl
  have z1 := hb.cell (j := 1) rfl
  have z2 := hb.cell (j := 2) rfl
  have z3 := hb.cell (j := 3) rfl
  have z4 := hb.cell (j := 4) rfl
  refine bodyPost_ret (v := .tuple #[.agg #[.int .i64 r, s, .bool x, .bool y, .bool z], .int .i64 er]) ?_ rfl hR
  simp only [Array.getD_eq_getD_getElem?] at h2 h3
  simp [results, Try.results18, go_sem, h2, h3, z0, z1, z2, z3, z4]
theorem info_entG : (Try.prog.info? 46).map (fun i => (i.zero, i.size, i.bytes)) = some (some (.agg #[.string ⟨#[]⟩, .int .i64 0, .bool false, .int .i64 0, .int .i64 0, .int .i64 0, .int .i64 0, .int .i64 0, .int .i64 0, .string ⟨#[]⟩, .int .i64 0, .int .i64 0]), 12, 112) := by kernel_rfl
theorem ent_oneG (x : EntV) : ∀ u ∈ x.cells, u.oneCell' = true := by
  intro u hu
  simp only [EntV.cells, List.mem_cons, List.not_mem_nil, or_false] at hu
  rcases hu with rfl | rfl | rfl | rfl | rfl | rfl | rfl | rfl | rfl | rfl | rfl | rfl <;> rfl
theorem rd_push {w u : World} {RB : Nat} {X : List Nat} {l : List Int} {f : Bool} {v v' : Value} (h : RdS w RB X l f) (hg : w.grownBy u v.ownBlock) (hv : ∀ q, v.ownBlock = some q → q ∈ X) (hm : Moved w v v') (hR : RB < w.heap.size) (hRn : v.ownBlock ≠ some RB) :
    ∃ X', RdS u RB X' l f ∧ (∀ M ∈ X, M ∈ X') ∧ (∀ q, v'.ownBlock = some q → q ∈ X') ∧ (∀ M ∈ X', M ∈ X ∨ v'.ownBlock = some M) := by
  have grow : ∀ Y : List Nat, (∀ M ∈ X, M ∈ Y) → RdS w RB Y l f → RdS u RB Y l f := by
    intro Y hY hr
    obtain ⟨a, n, c, h1, h2, h3, h4⟩ := hr.ex
    refine ⟨⟨a, n, c, (hg.block RB hR (fun e => hRn e.symm)).trans h1, ?_, h3, h4⟩⟩
    rcases h3 with rfl | h3
    · exact ints_any h2
    · by_cases h0 : n = 0
      · subst h0; exact ints_any h2
      · obtain ⟨⟨r1, r2, r3, r4, r5⟩, hw⟩ := h2
        refine ⟨⟨r1, r2, r3, r4, r5.imp id ?_⟩, hw⟩
        rintro ⟨b, off, e, hc⟩
        refine ⟨b, off, e, fun i hi => ?_⟩
        have hbx := (h3 _ e).2
        rw [← hc i hi]
        have hlt : b < w.heap.size := World.block_lt_of_cell? w ⟨b, off + i, none⟩ (u := (l.map (Value.int .u8))[i]) (by rw [hc i hi]; exact List.getElem?_eq_getElem hi)
        unfold World.cell?
        rw [hg.block b hlt (fun e2 => hbx (hY b (hv b e2.symm)))]
  cases hb : v'.ownBlock with
  | none => exact ⟨X, grow X (fun _ h => h) h, fun _ h => h, (fun q hq => by cases hq), fun M hM => .inl hM⟩
  | some g =>
    have hX : RdS w RB (g :: X) l f := by
      rcases hm g hb with e | e
      · obtain ⟨a, n, c, h1, h2, h3, h4⟩ := h.ex
        refine ⟨⟨a, n, c, h1, h2, h3.imp id (fun h3 x hx => ⟨(h3 x hx).1, fun hmem => ?_⟩), h4⟩⟩
        rcases List.mem_cons.1 hmem with e2 | e2
        · exact (h3 x hx).2 (by rw [e2]; exact hv g e)
        · exact (h3 x hx).2 e2
      · exact h.more e
    refine ⟨g :: X, grow _ (fun _ h => List.mem_cons_of_mem _ h) hX, fun _ h => List.mem_cons_of_mem _ h, (fun q hq => by simp only [Option.some.injEq] at hq; subst hq; exact List.mem_cons_self), fun M hM => ?_⟩
    rcases List.mem_cons.1 hM with e | e
    · exact .inr (by rw [e])
    · exact .inl e
/-- What the round holds of the logic. -/
def GetL (l l3 : List Int) (f3 : Bool) (k : Nat) (L : List EntV) (lk : List Int) (fk : Bool) : Prop :=
  (fk = false ∧ f3 = false ∧ entsF l3 k = some (L, lk)) ∨ (fk = true ∧ ∀ r o M, ¬ GetOK l r o M)
theorem entF_B {l r : List Int} {x : EntV} (hb : Bytes l) (h : entF l = some (x, r)) : Bytes r := by
  cases l with
  | nil => cases h
  | cons ph t =>
    have hbt : Bytes t := fun c hc => hb c (List.mem_cons_of_mem _ hc)
    cases hc : cutF t with
    | none => simp [entF, hc] at h
    | some pr =>
      obtain ⟨p, q⟩ := pr
      cases hr : rightB p with
      | false => simp [entF, hc, hr] at h
      | true =>
        simp [entF, hc, hr] at h
        obtain ⟨_, rfl⟩ := h
        exact fun c hm => hbt c (by rw [cutF_inv hbt hc]; exact List.mem_append_right _ hm)
set_option maxRecDepth 100000 in
set_option maxHeartbeats 16000000 in
theorem st_Get (a : Option Addr) (n c : Nat) (l : List Int) (w : World) (hI : Ints .u8 w a n c l) (hn : n ≤ 100000) :
    Calls Try.prog 18 #[.slice a n c] w fun e w' => ((∃ (r : Int) (o : On) (L : List EntV) (b : Option Addr) (d : Nat), GetOK l r o L ∧ e = .returned (.tuple #[.agg #[.int .i64 r, .slice b L.length d, .bool o.a, .bool o.b, .bool o.c], .int .i64 0]) ∧ OwnR w' w.heap.size 46 12 (.slice b L.length d) L.length (L.flatMap EntV.cells) ∧ ∀ x ∈ L, x.ok) ∨ ((∀ r o L, ¬ GetOK l r o L) ∧ e = .returned (.tuple #[.agg #[.int .i64 0, .slice none 0 0, .bool false, .bool false, .bool false], .int .i64 3]))) ∧ Below w.heap.size w w' := by
  have hby := bytes_of hI
  have hlen := hI.bounds
  have HPRE := Lib.hid (fun n1 l1 f1 (h1 : popN l false 8 = (n1, l1, f1)) => get_pre l hby h1 (l2 := oneL l1 f1) (f2 := (oneF l1 f1 || decide (7 < oneV l1 f1))) rfl rfl)
  have HI := Lib.hid hI
  have HBY := Lib.hid hby
  clear hby hI
  go_enter Try.func18, Try.ntmps18
  go_upto_region 3 with fail
  have k1 : Below w.heap.size w (w.alloc (.cells #[.int .i64 0, .slice none 0 0, .bool false, .bool false, .bool false] 25)) := belAlloc (Below.refl _ _) _
  have k2 : Below (w.alloc (.cells #[.int .i64 0, .slice none 0 0, .bool false, .bool false, .bool false] 25)).heap.size (w.alloc (.cells #[.int .i64 0, .slice none 0 0, .bool false, .bool false, .bool false] 25)) ((w.alloc (.cells #[.int .i64 0, .slice none 0 0, .bool false, .bool false, .bool false] 25)).alloc (.cells #[.slice a n c, .bool false] 68)) := belAlloc (Below.refl _ _) _
  have k3 : Below ((w.alloc (.cells #[.int .i64 0, .slice none 0 0, .bool false, .bool false, .bool false] 25)).alloc (.cells #[.slice a n c, .bool false] 68)).heap.size ((w.alloc (.cells #[.int .i64 0, .slice none 0 0, .bool false, .bool false, .bool false] 25)).alloc (.cells #[.slice a n c, .bool false] 68)) (((w.alloc (.cells #[.int .i64 0, .slice none 0 0, .bool false, .bool false, .bool false] 25)).alloc (.cells #[.slice a n c, .bool false] 68)).alloc (.cells #[.int .i64 0, .slice none 0 0, .bool false, .bool false, .bool false] 25)) := belAlloc (Below.refl _ _) _
  have hzb : Blk (((w.alloc (.cells #[.int .i64 0, .slice none 0 0, .bool false, .bool false, .bool false] 25)).alloc (.cells #[.slice a n c, .bool false] 68)).alloc (.cells #[.int .i64 0, .slice none 0 0, .bool false, .bool false, .bool false] 25)) w.heap.size [.int .i64 0, .slice none 0 0, .bool false, .bool false, .bool false] 25 := (Blk.new w [.int .i64 0, .slice none 0 0, .bool false, .bool false, .bool false] 25).later (belStep k2 k3)
  have hrb : Blk (((w.alloc (.cells #[.int .i64 0, .slice none 0 0, .bool false, .bool false, .bool false] 25)).alloc (.cells #[.slice a n c, .bool false] 68)).alloc (.cells #[.int .i64 0, .slice none 0 0, .bool false, .bool false, .bool false] 25)) (w.heap.size + 1) [.slice a n c, .bool false] 68 := (Blk.at (C := [.slice a n c, .bool false]) (by simp)).later k3
  have htb : Blk (((w.alloc (.cells #[.int .i64 0, .slice none 0 0, .bool false, .bool false, .bool false] 25)).alloc (.cells #[.slice a n c, .bool false] 68)).alloc (.cells #[.int .i64 0, .slice none 0 0, .bool false, .bool false, .bool false] 25)) (w.heap.size + 2) [.int .i64 0, .slice none 0 0, .bool false, .bool false, .bool false] 25 := Blk.at (C := [.int .i64 0, .slice none 0 0, .bool false, .bool false, .bool false]) (by simp)
  have hwb : Below w.heap.size w (((w.alloc (.cells #[.int .i64 0, .slice none 0 0, .bool false, .bool false, .bool false] 25)).alloc (.cells #[.slice a n c, .bool false] 68)).alloc (.cells #[.int .i64 0, .slice none 0 0, .bool false, .bool false, .bool false] 25)) := belStep (belStep k1 k2) k3
  clear k1 k2 k3
  generalize (((w.alloc (.cells #[.int .i64 0, .slice none 0 0, .bool false, .bool false, .bool false] 25)).alloc (.cells #[.slice a n c, .bool false] 68)).alloc (.cells #[.int .i64 0, .slice none 0 0, .bool false, .bool false, .bool false] 25)) = W1 at *
  have HZ1 := Lib.hid hzb
  have HT1 := Lib.hid htb
  have hr1 := hrb
  have HB1 := Lib.hid hwb
  have hw := hwb
  have hz1 : w.heap.size + 3 ≤ W1.heap.size := by have := htb.lt; omega
  clear hzb htb hrb hwb
  have HR1 := Lib.hid (show RdS W1 (w.heap.size + 1) [(w.heap.size + 2), w.heap.size] l false from ⟨⟨a, n, c, hr1, HI.out.later hw, (by by_cases h0 : n = 0; exact .inl h0; refine .inr (fun x hx => ?_); obtain ⟨b, off, e, _, hc⟩ := HI.out.opened (show 0 < n by omega); rw [hx] at e; simp only [Option.some.injEq] at e; have hlt := World.block_lt_of_cell? w ⟨b, off + 0, none⟩ (hc 0 (by omega)); subst e; simp only at hlt ⊢; refine ⟨by omega, fun hm => ?_⟩; simp only [List.mem_cons, List.not_mem_nil, or_false] at hm; omega), hn⟩⟩)
  clear hr1 hw
  have hinT : (w.heap.size + 2) ∈ [(w.heap.size + 2), w.heap.size] := by simp
  have hneT : (w.heap.size + 2) ≠ (w.heap.size + 1) := by omega
  have hneZ : w.heap.size ≠ (w.heap.size + 1) := by omega
  have C1 := Lib.hid (rd_number (w.heap.size + 1) [(w.heap.size + 2), w.heap.size] l false W1 HR1.out HBY.out)
  obtain ⟨⟨n1, l1, f1⟩, hpn⟩ : ∃ q, popN l false 8 = q := ⟨_, rfl⟩
  have hB1 := popN_B HBY.out false 8
  rw [hpn] at C1 hB1
  simp only at hB1
  have HPN := Lib.hid (HPRE.out n1 l1 f1 hpn)
  have HBl1 := Lib.hid hB1
  clear hpn hB1 HPRE
  obtain ⟨rv, hrv⟩ : ∃ z, IntKind.i64.wrap (n1 : Int) = z := ⟨_, rfl⟩
  have HRV := Lib.hid hrv
  have C1b := Lib.hid (show Calls Try.prog 37 #[.pointer (some ⟨(w.heap.size + 1), 0, none⟩)] W1 fun e w' => e = .returned (.int .i64 rv) ∧ RdS w' (w.heap.size + 1) [(w.heap.size + 2), w.heap.size] l1 f1 ∧ FarB (w.heap.size + 1) W1 w' from hrv ▸ C1.out)
  clear hrv C1
  go_upto_region 4 with (go_at_call 37; (with_reducible refine (C1b.out).mono ?_); rintro e v1 ⟨rfl, hR2, hF2⟩; have ht2 := hF2.blk HT1.out hneT; have t0 := ht2.cell (j := 0) rfl; have tf := ht2.frozen)
  have HT2 := Lib.hid (ht2.set 0 (.int .i64 rv))
  have HZ2 := Lib.hid ((hF2.blk HZ1.out hneZ).far (a := ⟨(w.heap.size + 2), 0, none⟩) (show (w.heap.size + 2) ≠ w.heap.size by omega) (.int .i64 rv))
  have HR2 := Lib.hid (hR2.far hinT hneT 0 (.int .i64 rv))
  have HB2 := Lib.hid (belSet (HB1.out.trans (hF2.below (B := w.heap.size) (by omega) HB1.out.size)) ⟨(w.heap.size + 2), 0, none⟩ (.int .i64 rv) (by show w.heap.size ≤ w.heap.size + 2; omega))
  clear hR2 hF2 ht2 t0 tf
  generalize v1.setCell ⟨(w.heap.size + 2), 0, none⟩ (.int .i64 rv) = W2 at *
  have hz2 : (w.heap.size + 1) < W2.heap.size := by have := HT2.out.lt; omega
  have C2 := Lib.hid (rd_flags (w.heap.size + 1) [(w.heap.size + 2), w.heap.size] l1 f1 W2 HR2.out HBl1.out hz2)
  go_upto_region 5 with (go_at_call 38; (with_reducible refine (C2.out).mono ?_); rintro e v2 ⟨o, rfl, hov, hR3, hF3⟩; have ht3 := hF3.blk HT2.out hneT; have t2 := ht3.cell (j := 2) rfl; have t3 := ht3.cell (j := 3) rfl; have t4 := ht3.cell (j := 4) rfl; have tf := ht3.frozen)
  have HOV := Lib.hid hov
  have HT3 := Lib.hid (((ht3.set 2 (.bool o.a)).set 3 (.bool o.b)).set 4 (.bool o.c))
  have HZ3 := Lib.hid ((((hF3.blk HZ2.out hneZ).far (a := ⟨(w.heap.size + 2), 2, none⟩) (show (w.heap.size + 2) ≠ w.heap.size by omega) (.bool o.a)).far (a := ⟨(w.heap.size + 2), 3, none⟩) (show (w.heap.size + 2) ≠ w.heap.size by omega) (.bool o.b)).far (a := ⟨(w.heap.size + 2), 4, none⟩) (show (w.heap.size + 2) ≠ w.heap.size by omega) (.bool o.c))
  have HR3 := Lib.hid (((hR3.far hinT hneT 2 (.bool o.a)).far hinT hneT 3 (.bool o.b)).far hinT hneT 4 (.bool o.c))
  have HB3 := Lib.hid (belSet (belSet (belSet (HB2.out.trans (hF3.below (B := w.heap.size) (by omega) HB2.out.size)) ⟨(w.heap.size + 2), 2, none⟩ (.bool o.a) (by show w.heap.size ≤ w.heap.size + 2; omega)) ⟨(w.heap.size + 2), 3, none⟩ (.bool o.b) (by show w.heap.size ≤ w.heap.size + 2; omega)) ⟨(w.heap.size + 2), 4, none⟩ (.bool o.c) (by show w.heap.size ≤ w.heap.size + 2; omega))
  clear hR3 hF3 ht3 t2 t3 t4 tf hov
  generalize ((v2.setCell ⟨(w.heap.size + 2), 2, none⟩ (.bool o.a)).setCell ⟨(w.heap.size + 2), 3, none⟩ (.bool o.b)).setCell ⟨(w.heap.size + 2), 4, none⟩ (.bool o.c) = W3 at *
  obtain ⟨l2, hl2⟩ : ∃ z, oneL l1 f1 = z := ⟨_, rfl⟩
  obtain ⟨f2, hf2⟩ : ∃ z, (oneF l1 f1 || decide (7 < oneV l1 f1)) = z := ⟨_, rfl⟩
  have hBl2 : Bytes l2 := by rw [← hl2]; exact oneL_B HBl1.out f1
  rw [hl2, hf2] at HR3 HPN
  clear hl2 hf2
  have C3 := Lib.hid (rd_one (w.heap.size + 1) [(w.heap.size + 2), w.heap.size] l2 f2 W3 HR3.out)
  have hcv := oneV_bd hBl2 f2
  obtain ⟨cn, hcn⟩ : ∃ z : Nat, oneV l2 f2 = (z : Int) := ⟨(oneV l2 f2).toNat, by omega⟩
  obtain ⟨l3, hl3⟩ : ∃ z, oneL l2 f2 = z := ⟨_, rfl⟩
  obtain ⟨f3, hf3⟩ : ∃ z, oneF l2 f2 = z := ⟨_, rfl⟩
  have hBl3 : Bytes l3 := by rw [← hl3]; exact oneL_B hBl2 f2
  rw [hcn, hl3, hf3] at C3
  rw [hcn] at hcv
  rw [hf3, hcn, hl3] at HPN
  clear hl3 hf3 hcn hBl2
  go_wp2_with (go_at_call 39; (with_reducible refine (C3.out).mono ?_); rintro e W4 ⟨rfl, hR4, hF4⟩)
  have HT4 := Lib.hid (hF4.blk HT3.out hneT)
  have HZ4 := Lib.hid (hF4.blk HZ3.out hneZ)
  have HR4 := Lib.hid hR4
  have HB4 := Lib.hid (HB3.out.trans (hF4.below (B := w.heap.size) (by omega) HB3.out.size))
  have HL0 := Lib.hid (show GetL l l3 f3 0 [] l3 f3 from by rcases HPN.out with ⟨h1, h2⟩ | ⟨h1, _⟩; exact .inr ⟨h1, h2⟩; exact .inl ⟨h1, h1, rfl⟩)
  have hz4 : (w.heap.size + 3) ≤ W4.heap.size := by have := HT4.out.lt; omega
  have HBl3 := Lib.hid hBl3
  clear hR4 hF4 hBl3 C1b C2 C3
  go_loopg [] (cn + 1) (fun g wr => ∃ (k : Nat) (L : List EntV) (lk : List Int) (fk : Bool) (pa : Option Addr) (pc : Nat) (X : List Nat), k + g = cn + 1 ∧ k ≤ cn ∧ Hid (L.length = k) ∧ Hid (Blk wr (w.heap.size + 2) [.int .i64 rv, .slice pa k pc, .bool o.a, .bool o.b, .bool o.c] 25) ∧ Hid (Blk wr w.heap.size [.int .i64 0, .slice none 0 0, .bool false, .bool false, .bool false] 25) ∧ Hid (OwnR wr (w.heap.size + 3) 46 12 (.slice pa k pc) k (L.flatMap EntV.cells)) ∧ Hid (RdS wr (w.heap.size + 1) X lk fk) ∧ Hid (((w.heap.size + 2) ∈ X ∧ w.heap.size ∈ X) ∧ (∀ q, (Value.slice pa k pc).ownBlock = some q → q ∈ X) ∧ (∀ M ∈ X, M < wr.heap.size)) ∧ Hid (Bytes lk) ∧ Hid (∀ x ∈ L, x.ok) ∧ Hid (GetL l l3 f3 k L lk fk) ∧ (w.heap.size + 3) ≤ wr.heap.size ∧ Below w.heap.size w wr)
  case atStart => exact ⟨0, [], l3, f3, none, 0, [(w.heap.size + 2), w.heap.size], by omega, by omega, Lib.hid rfl, HT4, HZ4, Lib.hid (OwnR.nil _ _ _ _), HR4, Lib.hid ⟨by simp, fun q hq => by simp [Value.ownBlock] at hq, fun M hM => by simp only [List.mem_cons, List.not_mem_nil, or_false] at hM; omega⟩, HBl3, Lib.hid (fun x hx => by cases hx), HL0, hz4, HB4.out⟩
  case round =>
    obtain ⟨k, L, lk, fk, pa, pc, X, hkg, hkc, HLK, HT, HZ, HO, HR, HX, HBK, HOK, HL, hz, hbr⟩ := hrel
    have HBR := Lib.hid hbr
    have t1 := HT.out.cell (j := 1) rfl
    obtain ⟨qa, qn, qc, hq1, hq2, _, _⟩ := HR.out.ex
    have q1 := hq1.cell (j := 1) rfl
    have q0 := hq1.cell (j := 0) rfl
    have hqb := hq2.bounds
    clear hq1
    cases fk with
    | true =>
      have HNO := Lib.hid (show ∀ r o M, ¬ GetOK l r o M from by rcases HL.out with ⟨h, _⟩ | ⟨_, h⟩; cases h; exact h)
      clear hq2
      by_cases hkn : k < cn
      · have hd : decide ((k : Int) < (cn : Int)) = true := decide_eq_true (by omega)
        have hd2 : (k : Int) < (cn : Int) := by omega
        have z0 := HZ.out.cell (j := 0) rfl
        have z1 := HZ.out.cell (j := 1) rfl
        have z2 := HZ.out.cell (j := 2) rfl
        have z3 := HZ.out.cell (j := 3) rfl
        have z4 := HZ.out.cell (j := 4) rfl
        have zf := HZ.out.frozen
        have HZ9 := HZ
        have HB9 := HBR
        go_wp2
        refine get_ret _ w.heap.size _ 0 3 (.slice none 0 0) false false false _ rfl rfl (((((HZ9.out.set 0 (.int .i64 0)).set 1 (.slice none 0 0)).set 2 (.bool false)).set 3 (.bool false)).set 4 (.bool false)) ⟨.inr ⟨HNO.out, rfl⟩, (belSet (belSet (belSet (belSet (belSet HB9.out ⟨w.heap.size, 0, none⟩ (.int .i64 0) (Nat.le_refl _)) ⟨w.heap.size, 1, none⟩ (.slice none 0 0) (Nat.le_refl _)) ⟨w.heap.size, 2, none⟩ (.bool false) (Nat.le_refl _)) ⟨w.heap.size, 3, none⟩ (.bool false) (Nat.le_refl _)) ⟨w.heap.size, 4, none⟩ (.bool false) (Nat.le_refl _))⟩
      · have hd : decide ((k : Int) < (cn : Int)) = false := decide_eq_false (by omega)
        have hd2 : ¬ (k : Int) < (cn : Int) := by omega
        have z0 := HZ.out.cell (j := 0) rfl
        have z1 := HZ.out.cell (j := 1) rfl
        have z2 := HZ.out.cell (j := 2) rfl
        have z3 := HZ.out.cell (j := 3) rfl
        have z4 := HZ.out.cell (j := 4) rfl
        have zf := HZ.out.frozen
        have HZ9 := HZ
        have HB9 := HBR
        go_wp2
        refine get_ret _ w.heap.size _ 0 3 (.slice none 0 0) false false false _ rfl rfl (((((HZ9.out.set 0 (.int .i64 0)).set 1 (.slice none 0 0)).set 2 (.bool false)).set 3 (.bool false)).set 4 (.bool false)) ⟨.inr ⟨HNO.out, rfl⟩, (belSet (belSet (belSet (belSet (belSet HB9.out ⟨w.heap.size, 0, none⟩ (.int .i64 0) (Nat.le_refl _)) ⟨w.heap.size, 1, none⟩ (.slice none 0 0) (Nat.le_refl _)) ⟨w.heap.size, 2, none⟩ (.bool false) (Nat.le_refl _)) ⟨w.heap.size, 3, none⟩ (.bool false) (Nat.le_refl _)) ⟨w.heap.size, 4, none⟩ (.bool false) (Nat.le_refl _))⟩
    | false =>
      have HEF := Lib.hid (show f3 = false ∧ entsF l3 k = some (L, lk) from by rcases HL.out with ⟨_, h⟩ | ⟨h, _⟩; exact h; cases h)
      by_cases hkn : k < cn
      · have hd : decide ((k : Int) < (cn : Int)) = true := decide_eq_true (by omega)
        have hd2 : (k : Int) < (cn : Int) := by omega
        have hlen8 : k ≤ 255 := by omega
        go_wp2
        clear q0 q1 hq2 hqb
        refine wp_region_held_drew (S := fun u => Below w.heap.size w u) (by kernel_rfl) (by exact belDrew hbr) (fun hHeld => ?_)
        have hd0 : Below wr.heap.size wr wr.drew := belDrew (Below.refl _ _)
        have HT0 := Lib.hid (HT.out.later hd0)
        have HZ0 := Lib.hid (HZ.out.later hd0)
        have HO0 := Lib.hid (OwnR.later HO.out hd0)
        have HR0 := Lib.hid (HR.out.later hd0)
        have HB0 := Lib.hid (belStep hbr hd0)
        have hs0 := hd0.size
        have hX0 : ∀ M ∈ X, M < wr.drew.heap.size := fun M hM => Nat.lt_of_lt_of_le (HX.out.2.2 M hM) hs0
        clear hd0 t1
        generalize wr.drew = d0 at *
        have hzd : (w.heap.size + 1) < d0.heap.size := by have := HT0.out.lt; omega
        have CE := Lib.hid (rd_entry (w.heap.size + 1) X lk d0 HR0.out HBK.out hzd hX0)
        have t1 := HT0.out.cell (j := 1) rfl
        refine wpAnyH_take (i := 0) (oi := ?oi_k1) (v := ?v_k1) ?hi_k1 (by kernel_rfl) ?hf_k1 ?hr_k1 ?hQ_k1 (Or.inl ⟨?hw_k1, ?hy_k1⟩) (by assumption) ?rest_k1
        case hi_k1 => ((simp only [List.getElem?_toArray, List.getElem?_cons_succ, List.getElem?_cons_zero]); rfl)
        case hf_k1 => kernel_rfl
        case hr_k1 => kernel_rfl
        case hQ_k1 => exact fun _ _ _ h => h
        case hw_k1 => rfl
        case hy_k1 => ((intro w hSw; (try dsimp only at hSw); go_simp); all_goals (with_reducible rfl))
        try simp only [Act.put, List.setIfInBounds_toArray, List.set_cons_zero, List.set_cons_succ]
        refine wpAnyH_take (i := 2) (oi := ?oi_k2) (v := ?v_k2) ?hi_k2 (by kernel_rfl) ?hf_k2 ?hr_k2 ?hQ_k2 (Or.inl ⟨?hw_k2, ?hy_k2⟩) (by assumption) ?rest_k2
        case hi_k2 => ((simp only [List.getElem?_toArray, List.getElem?_cons_succ, List.getElem?_cons_zero]); rfl)
        case hf_k2 => kernel_rfl
        case hr_k2 => kernel_rfl
        case hQ_k2 => exact fun _ _ _ h => h
        case hw_k2 => rfl
        case hy_k2 => ((intro w hSw; (try dsimp only at hSw); go_simp); all_goals (with_reducible rfl))
        try simp only [Act.put, List.setIfInBounds_toArray, List.set_cons_zero, List.set_cons_succ]
        refine wpAnyH_ready (rs := [1, 3]) (by kernel_rfl) (by simp) ?_
        refine AllReadyH.cons (o := ?o1_w12) ?hi1_w12 (fun K hK => ?rest1_w12) (AllReadyH.cons (o := ?o2_w12) ?hi2_w12 (fun K hK => ?rest2_w12) AllReadyH.nil)
        case hi1_w12 => ((simp only [List.getElem?_toArray, List.getElem?_cons_succ, List.getElem?_cons_zero]); rfl)
        case hi2_w12 => ((simp only [List.getElem?_toArray, List.getElem?_cons_succ, List.getElem?_cons_zero]); rfl)
        case rest1_w12 =>
          go_simp
          refine hK.out _ _ (by exact (show Below w.heap.size w _ by assumption)) (fun hHeld => ?_)
          clear hK K
          try simp only [Act.put, List.setIfInBounds_toArray, List.set_cons_zero, List.set_cons_succ]
          refine wpAnyH_ready (rs := [3]) (by kernel_rfl) (by simp) ?_
          refine AllReadyH.cons (o := ?o1_v1) ?hi_v1 (fun K hK => ?rest_v1) AllReadyH.nil
          case hi_v1 => ((simp only [List.getElem?_toArray, List.getElem?_cons_succ, List.getElem?_cons_zero]); rfl)
          go_simp
          (go_at_call 40; (with_reducible refine (CE.out).mono ?_); rintro e q ⟨x, rfl, hxo, hxr, hFq⟩)
          try go_simp
          have HXO := Lib.hid hxo
          have HXR := Lib.hid hxr
          have HTq := Lib.hid (hFq.blk HT0.out hneT)
          have HZq := Lib.hid (hFq.blk HZ0.out hneZ)
          have HOq := Lib.hid (hFq.own HO0.out (show (w.heap.size + 1) < (w.heap.size + 3) by omega))
          have HBq := Lib.hid (HB0.out.trans (hFq.below (B := w.heap.size) (by omega) HB0.out.size))
          have hsq := hFq.size
          have hbq := HBq.out
          clear hxo hxr hFq t1
          refine hK.out _ _ (by exact hbq) (fun hHeld => ?_)
          clear hK K
          try simp only [Act.put, List.setIfInBounds_toArray, List.set_cons_zero, List.set_cons_succ]
          have t1 := HTq.out.cell (j := 1) rfl
          refine wpAnyH_ready (rs := [4]) (by kernel_rfl) (by simp) ?_
          refine AllReadyH.cons (o := ?o1_v2) ?hi_v2 (fun K hK => ?rest_v2) AllReadyH.nil
          case hi_v2 => ((simp only [List.getElem?_toArray, List.getElem?_cons_succ, List.getElem?_cons_zero]); rfl)
          go_simp
          have HRX := Lib.hid (row_new q (EntV.cells x) 46 1 12 rfl (by unfold maxLen; omega))
          have HQA := Lib.hid (belAlloc (Below.refl q.heap.size q) (.cells #[.string x.pod.id, .int .i64 x.pod.prio, .bool x.pod.crit, .int .i64 x.pod.r0, .int .i64 x.pod.r1, .int .i64 x.pod.r2, .int .i64 x.pod.l0, .int .i64 x.pod.l1, .int .i64 x.pod.l2, .string x.pod.img, .int .i64 x.pod.size, .int .i64 x.phase] 46))
          have HT8 := Lib.hid (HTq.out.later HQA.out)
          have HZ8 := Lib.hid (HZq.out.later HQA.out)
          have HO8 := Lib.hid (OwnR.later HOq.out HQA.out)
          have HB8 := Lib.hid (belStep HBq.out HQA.out)
          have hs08 : wr.heap.size ≤ (q.alloc (.cells #[.string x.pod.id, .int .i64 x.pod.prio, .bool x.pod.crit, .int .i64 x.pod.r0, .int .i64 x.pod.r1, .int .i64 x.pod.r2, .int .i64 x.pod.l0, .int .i64 x.pod.l1, .int .i64 x.pod.l2, .string x.pod.img, .int .i64 x.pod.size, .int .i64 x.phase] 46)).heap.size := by have := HQA.out.size; omega
          replace HRX := Lib.hid (show Row (q.alloc (.cells #[.string x.pod.id, .int .i64 x.pod.prio, .bool x.pod.crit, .int .i64 x.pod.r0, .int .i64 x.pod.r1, .int .i64 x.pod.r2, .int .i64 x.pod.l0, .int .i64 x.pod.l1, .int .i64 x.pod.l2, .string x.pod.img, .int .i64 x.pod.size, .int .i64 x.phase] 46)) (some ⟨q.heap.size, 0, none⟩) 1 1 12 (EntV.cells x) from HRX.out)
          have hz8 : (w.heap.size + 3) ≤ (q.alloc (.cells #[.string x.pod.id, .int .i64 x.pod.prio, .bool x.pod.crit, .int .i64 x.pod.r0, .int .i64 x.pod.r1, .int .i64 x.pod.r2, .int .i64 x.pod.l0, .int .i64 x.pod.l1, .int .i64 x.pod.l2, .string x.pod.img, .int .i64 x.pod.size, .int .i64 x.phase] 46)).heap.size := by omega
          clear t1
          generalize q.alloc (.cells #[.string x.pod.id, .int .i64 x.pod.prio, .bool x.pod.crit, .int .i64 x.pod.r0, .int .i64 x.pod.r1, .int .i64 x.pod.r2, .int .i64 x.pod.l0, .int .i64 x.pod.l1, .int .i64 x.pod.l2, .string x.pod.img, .int .i64 x.pod.size, .int .i64 x.phase] 46) = a8 at *
          have hb8 := HB8.out
          refine hK.out _ _ (by exact hb8) (fun hHeld => ?_)
          clear hK K
          try simp only [Act.put, List.setIfInBounds_toArray, List.set_cons_zero, List.set_cons_succ]
          have t1 := HT8.out.cell (j := 1) rfl
          refine wpAnyH_ready (rs := [5]) (by kernel_rfl) (by simp) ?_
          refine AllReadyH.cons (o := ?o1_v3) ?hi_v3 (fun K hK => ?rest_v3) AllReadyH.nil
          case hi_v3 => ((simp only [List.getElem?_toArray, List.getElem?_cons_succ, List.getElem?_cons_zero]); rfl)
          refine op_appS rfl _ _ 22 rfl (w.heap.size + 3) 46 _ 12 112 Try.underlying22 info_entG rfl (by decide) _ k _ (by rfl) HO8.out _ 1 1 (EntV.cells x) (by rfl) HRX.out (ent_oneG x) (by unfold maxLen; omega) (by omega) (by omega) ?_
          intro v9 w9 ho9 hb9 hg9 hm9
          have hbw9 : Below w.heap.size w w9 := HB8.out.trans (hb9.mono (by omega))
          refine hK.out _ _ (by exact hbw9) (fun hHeld => ?_)
          clear hK K
          try simp only [Act.put, List.setIfInBounds_toArray, List.set_cons_zero, List.set_cons_succ]
          obtain ⟨pa2, pc2, e2, _⟩ := rowR_of_own ho9
          subst e2
          have HT9 := Lib.hid (HT8.out.below hb9 (show (w.heap.size + 2) < (w.heap.size + 3) by omega))
          have HZ9 := Lib.hid (HZ8.out.below hb9 (show w.heap.size < (w.heap.size + 3) by omega))
          have hs8 : (w.heap.size + 1) < a8.heap.size := by have := HT8.out.lt; omega
          have hnb : (Value.slice pa k pc).ownBlock ≠ some (w.heap.size + 1) := fun e => by have := (World.ownsRow.lt HO8.out _ e).1; omega
          have HLB := Lib.hid (fun q h => (World.ownsRow.lt ho9 q h).2)
          have HO9 := Lib.hid ho9
          have hs9 := hg9.size
          have hxin : ∀ q, (Value.slice pa k pc).ownBlock = some q → q ∈ X := HX.out.2.1
          have HPU := Lib.hid (fun (lz : List Int) (fz : Bool) (h : RdS a8 (w.heap.size + 1) X lz fz) => rd_push h hg9 hxin hm9 hs8 hnb)
          clear ho9 hg9 hm9 hb9
          have y1 := HT9.out.cell (j := 1) rfl
          have yf := HT9.out.frozen
          refine wpAnyH_take (i := 6) (oi := ?oi_k3) (v := ?v_k3) ?hi_k3 (by kernel_rfl) ?hf_k3 ?hr_k3 ?hQ_k3 (Or.inl ⟨?hw_k3, ?hy_k3⟩) (by assumption) ?rest_k3
          case hi_k3 => ((simp only [List.getElem?_toArray, List.getElem?_cons_succ, List.getElem?_cons_zero]); rfl)
          case hf_k3 => kernel_rfl
          case hr_k3 => kernel_rfl
          case hQ_k3 => exact fun _ _ _ h => h
          case hw_k3 => rfl
          case hy_k3 => ((intro w hSw; (try dsimp only at hSw); go_simp); all_goals (with_reducible rfl))
          try simp only [Act.put, List.setIfInBounds_toArray, List.set_cons_zero, List.set_cons_succ]
          refine wpAnyH_ready (rs := [7]) (by kernel_rfl) (by simp) ?_
          refine AllReadyH.cons (o := ?o1_v4) ?hi_v4 (fun K hK => ?rest_v4) AllReadyH.nil
          case hi_v4 => ((simp only [List.getElem?_toArray, List.getElem?_cons_succ, List.getElem?_cons_zero]); rfl)
          go_simp
          have HT10 := Lib.hid (HT9.out.set 1 (.slice pa2 (k + 1) pc2))
          have HZ10 := Lib.hid (HZ9.out.far (a := ⟨(w.heap.size + 2), 1, none⟩) (show (w.heap.size + 2) ≠ w.heap.size by omega) (.slice pa2 (k + 1) pc2))
          have HO10 := Lib.hid (OwnR.setCell HO9.out (a := ⟨(w.heap.size + 2), 1, none⟩) (show (w.heap.size + 2) < (w.heap.size + 3) by omega) (.slice pa2 (k + 1) pc2))
          have hb10 := belSet hbw9 ⟨(w.heap.size + 2), 1, none⟩ (.slice pa2 (k + 1) pc2) (by show w.heap.size ≤ w.heap.size + 2; omega)
          have hz10 : (w9.setCell ⟨(w.heap.size + 2), 1, none⟩ (.slice pa2 (k + 1) pc2)).heap.size = w9.heap.size := by simp
          have HPV := Lib.hid (fun (lz : List Int) (fz : Bool) (h : RdS a8 (w.heap.size + 1) X lz fz) => (show ∃ X', RdS (w9.setCell ⟨(w.heap.size + 2), 1, none⟩ (.slice pa2 (k + 1) pc2)) (w.heap.size + 1) X' lz fz ∧ (∀ M ∈ X, M ∈ X') ∧ (∀ q, (Value.slice pa2 (k + 1) pc2).ownBlock = some q → q ∈ X') ∧ (∀ M ∈ X', M ∈ X ∨ (Value.slice pa2 (k + 1) pc2).ownBlock = some M) from by obtain ⟨X', h1, h2, h3, h4⟩ := HPU.out lz fz h; exact ⟨X', h1.far (h2 _ HX.out.1.1) hneT 1 _, h2, h3, h4⟩))
          clear y1 yf HPU HT9 HZ9 HO9
          generalize w9.setCell ⟨(w.heap.size + 2), 1, none⟩ (.slice pa2 (k + 1) pc2) = w10 at *
          refine hK.out _ _ (by exact hb10) (fun hHeld => ?_)
          clear hK K
          try simp only [Act.put, List.setIfInBounds_toArray, List.set_cons_zero, List.set_cons_succ]
          refine wpAnyH_done (by kernel_rfl) ?_ _
          have HLN := Lib.hid (show (L ++ [x]).length = k + 1 by rw [List.length_append, HLK.out]; rfl)
          have HON := Lib.hid (show OwnR w10 (w.heap.size + 3) 46 12 (.slice pa2 (k + 1) pc2) (k + 1) ((L ++ [x]).flatMap EntV.cells) from by rw [List.flatMap_append]; simpa using HO10.out)
          have HKN := Lib.hid (show ∀ y ∈ L ++ [x], y.ok from fun y hy => by rcases List.mem_append.1 hy with h | h; exact HOK.out y h; simp only [List.mem_singleton] at h; rw [h]; exact HXO.out)
          have HXL := Lib.hid (fun M (h : M ∈ X) => Nat.lt_of_lt_of_le (Nat.lt_of_lt_of_le (HX.out.2.2 M h) hs08) (show a8.heap.size ≤ w10.heap.size by omega))
          have HLB2 := Lib.hid (show ∀ q, (Value.slice pa2 (k + 1) pc2).ownBlock = some q → q < w10.heap.size from fun q h => by have := HLB.out q h; omega)
          have HFIN := Lib.hid (show ∃ (lz : List Int) (fz : Bool), RdS a8 (w.heap.size + 1) X lz fz ∧ Bytes lz ∧ GetL l l3 f3 (k + 1) (L ++ [x]) lz fz from by
            rcases HXR.out with ⟨r2, he, hr⟩ | ⟨he, r2, hr, hb2⟩
            · refine ⟨r2, false, hr.later HQA.out, entF_B HBK.out he, .inl ⟨rfl, HEF.out.1, ?_⟩⟩
              simp only [entsF, HEF.out.2, he]
            · refine ⟨r2, true, hr.later HQA.out, hb2, .inr ⟨rfl, fun r o M hG => ?_⟩⟩
              have hn : entsF l3 (k + 1) = none := by simp only [entsF, HEF.out.2, he]
              have hn2 := entsF_none hn (show k + 1 ≤ cn by omega)
              rcases HPN.out with ⟨h1, h2⟩ | ⟨h1, h2, h3, h4, h5, h6, h7⟩
              · exact h2 r o M hG
              · have h8 := hG.2.2.2.1
                rw [← h7, ← h6, Int.toNat_natCast, hn2] at h8
                cases h8)
          obtain ⟨lz, fz, hrz, hbz, hgz⟩ := HFIN.out
          obtain ⟨X2, hx1, hx2, hx3, hx4⟩ := HPV.out lz fz hrz
          clear HFIN HPV hHeld
          obtain ⟨gq, rfl⟩ : ∃ gq, gk = gq + 1 := ⟨gk - 1, by omega⟩
          go_wp2
          go_roundg gq
          case rel => exact ⟨k + 1, L ++ [x], lz, fz, pa2, pc2, X2, by omega, by omega, HLN, HT10, HZ10, HON, Lib.hid hx1, Lib.hid ⟨⟨hx2 _ HX.out.1.1, hx2 _ HX.out.1.2⟩, hx3, fun M hM => by rcases hx4 M hM with h | h; exact HXL.out M h; exact HLB2.out M h⟩, Lib.hid hbz, HKN, Lib.hid hgz, by omega, hb10⟩
          case measure => omega
        case rest2_w12 =>
          go_simp
          (go_at_call 40; (with_reducible refine (CE.out).mono ?_); rintro e q ⟨x, rfl, hxo, hxr, hFq⟩)
          try go_simp
          have HXO := Lib.hid hxo
          have HXR := Lib.hid hxr
          have HTq := Lib.hid (hFq.blk HT0.out hneT)
          have HZq := Lib.hid (hFq.blk HZ0.out hneZ)
          have HOq := Lib.hid (hFq.own HO0.out (show (w.heap.size + 1) < (w.heap.size + 3) by omega))
          have HBq := Lib.hid (HB0.out.trans (hFq.below (B := w.heap.size) (by omega) HB0.out.size))
          have hsq := hFq.size
          have hbq := HBq.out
          clear hxo hxr hFq t1
          refine hK.out _ _ (by exact hbq) (fun hHeld => ?_)
          clear hK K
          try simp only [Act.put, List.setIfInBounds_toArray, List.set_cons_zero, List.set_cons_succ]
          have t1 := HTq.out.cell (j := 1) rfl
          refine wpAnyH_ready (rs := [1, 4]) (by kernel_rfl) (by simp) ?_
          refine AllReadyH.cons (o := ?o1_w11) ?hi1_w11 (fun K hK => ?rest1_w11) (AllReadyH.cons (o := ?o2_w11) ?hi2_w11 (fun K hK => ?rest2_w11) AllReadyH.nil)
          case hi1_w11 => ((simp only [List.getElem?_toArray, List.getElem?_cons_succ, List.getElem?_cons_zero]); rfl)
          case hi2_w11 => ((simp only [List.getElem?_toArray, List.getElem?_cons_succ, List.getElem?_cons_zero]); rfl)
          case rest1_w11 =>
            go_simp
            refine hK.out _ _ (by exact (show Below w.heap.size w _ by assumption)) (fun hHeld => ?_)
            clear hK K
            try simp only [Act.put, List.setIfInBounds_toArray, List.set_cons_zero, List.set_cons_succ]
            refine wpAnyH_ready (rs := [4]) (by kernel_rfl) (by simp) ?_
            refine AllReadyH.cons (o := ?o1_v5) ?hi_v5 (fun K hK => ?rest_v5) AllReadyH.nil
            case hi_v5 => ((simp only [List.getElem?_toArray, List.getElem?_cons_succ, List.getElem?_cons_zero]); rfl)
            go_simp
            have HRX := Lib.hid (row_new q (EntV.cells x) 46 1 12 rfl (by unfold maxLen; omega))
            have HQA := Lib.hid (belAlloc (Below.refl q.heap.size q) (.cells #[.string x.pod.id, .int .i64 x.pod.prio, .bool x.pod.crit, .int .i64 x.pod.r0, .int .i64 x.pod.r1, .int .i64 x.pod.r2, .int .i64 x.pod.l0, .int .i64 x.pod.l1, .int .i64 x.pod.l2, .string x.pod.img, .int .i64 x.pod.size, .int .i64 x.phase] 46))
            have HT8 := Lib.hid (HTq.out.later HQA.out)
            have HZ8 := Lib.hid (HZq.out.later HQA.out)
            have HO8 := Lib.hid (OwnR.later HOq.out HQA.out)
            have HB8 := Lib.hid (belStep HBq.out HQA.out)
            have hs08 : wr.heap.size ≤ (q.alloc (.cells #[.string x.pod.id, .int .i64 x.pod.prio, .bool x.pod.crit, .int .i64 x.pod.r0, .int .i64 x.pod.r1, .int .i64 x.pod.r2, .int .i64 x.pod.l0, .int .i64 x.pod.l1, .int .i64 x.pod.l2, .string x.pod.img, .int .i64 x.pod.size, .int .i64 x.phase] 46)).heap.size := by have := HQA.out.size; omega
            replace HRX := Lib.hid (show Row (q.alloc (.cells #[.string x.pod.id, .int .i64 x.pod.prio, .bool x.pod.crit, .int .i64 x.pod.r0, .int .i64 x.pod.r1, .int .i64 x.pod.r2, .int .i64 x.pod.l0, .int .i64 x.pod.l1, .int .i64 x.pod.l2, .string x.pod.img, .int .i64 x.pod.size, .int .i64 x.phase] 46)) (some ⟨q.heap.size, 0, none⟩) 1 1 12 (EntV.cells x) from HRX.out)
            have hz8 : (w.heap.size + 3) ≤ (q.alloc (.cells #[.string x.pod.id, .int .i64 x.pod.prio, .bool x.pod.crit, .int .i64 x.pod.r0, .int .i64 x.pod.r1, .int .i64 x.pod.r2, .int .i64 x.pod.l0, .int .i64 x.pod.l1, .int .i64 x.pod.l2, .string x.pod.img, .int .i64 x.pod.size, .int .i64 x.phase] 46)).heap.size := by omega
            clear t1
            generalize q.alloc (.cells #[.string x.pod.id, .int .i64 x.pod.prio, .bool x.pod.crit, .int .i64 x.pod.r0, .int .i64 x.pod.r1, .int .i64 x.pod.r2, .int .i64 x.pod.l0, .int .i64 x.pod.l1, .int .i64 x.pod.l2, .string x.pod.img, .int .i64 x.pod.size, .int .i64 x.phase] 46) = a8 at *
            have hb8 := HB8.out
            refine hK.out _ _ (by exact hb8) (fun hHeld => ?_)
            clear hK K
            try simp only [Act.put, List.setIfInBounds_toArray, List.set_cons_zero, List.set_cons_succ]
            have t1 := HT8.out.cell (j := 1) rfl
            refine wpAnyH_ready (rs := [5]) (by kernel_rfl) (by simp) ?_
            refine AllReadyH.cons (o := ?o1_v6) ?hi_v6 (fun K hK => ?rest_v6) AllReadyH.nil
            case hi_v6 => ((simp only [List.getElem?_toArray, List.getElem?_cons_succ, List.getElem?_cons_zero]); rfl)
            refine op_appS rfl _ _ 22 rfl (w.heap.size + 3) 46 _ 12 112 Try.underlying22 info_entG rfl (by decide) _ k _ (by rfl) HO8.out _ 1 1 (EntV.cells x) (by rfl) HRX.out (ent_oneG x) (by unfold maxLen; omega) (by omega) (by omega) ?_
            intro v9 w9 ho9 hb9 hg9 hm9
            have hbw9 : Below w.heap.size w w9 := HB8.out.trans (hb9.mono (by omega))
            refine hK.out _ _ (by exact hbw9) (fun hHeld => ?_)
            clear hK K
            try simp only [Act.put, List.setIfInBounds_toArray, List.set_cons_zero, List.set_cons_succ]
            obtain ⟨pa2, pc2, e2, _⟩ := rowR_of_own ho9
            subst e2
            have HT9 := Lib.hid (HT8.out.below hb9 (show (w.heap.size + 2) < (w.heap.size + 3) by omega))
            have HZ9 := Lib.hid (HZ8.out.below hb9 (show w.heap.size < (w.heap.size + 3) by omega))
            have hs8 : (w.heap.size + 1) < a8.heap.size := by have := HT8.out.lt; omega
            have hnb : (Value.slice pa k pc).ownBlock ≠ some (w.heap.size + 1) := fun e => by have := (World.ownsRow.lt HO8.out _ e).1; omega
            have HLB := Lib.hid (fun q h => (World.ownsRow.lt ho9 q h).2)
            have HO9 := Lib.hid ho9
            have hs9 := hg9.size
            have hxin : ∀ q, (Value.slice pa k pc).ownBlock = some q → q ∈ X := HX.out.2.1
            have HPU := Lib.hid (fun (lz : List Int) (fz : Bool) (h : RdS a8 (w.heap.size + 1) X lz fz) => rd_push h hg9 hxin hm9 hs8 hnb)
            clear ho9 hg9 hm9 hb9
            have y1 := HT9.out.cell (j := 1) rfl
            have yf := HT9.out.frozen
            refine wpAnyH_take (i := 6) (oi := ?oi_k4) (v := ?v_k4) ?hi_k4 (by kernel_rfl) ?hf_k4 ?hr_k4 ?hQ_k4 (Or.inl ⟨?hw_k4, ?hy_k4⟩) (by assumption) ?rest_k4
            case hi_k4 => ((simp only [List.getElem?_toArray, List.getElem?_cons_succ, List.getElem?_cons_zero]); rfl)
            case hf_k4 => kernel_rfl
            case hr_k4 => kernel_rfl
            case hQ_k4 => exact fun _ _ _ h => h
            case hw_k4 => rfl
            case hy_k4 => ((intro w hSw; (try dsimp only at hSw); go_simp); all_goals (with_reducible rfl))
            try simp only [Act.put, List.setIfInBounds_toArray, List.set_cons_zero, List.set_cons_succ]
            refine wpAnyH_ready (rs := [7]) (by kernel_rfl) (by simp) ?_
            refine AllReadyH.cons (o := ?o1_v7) ?hi_v7 (fun K hK => ?rest_v7) AllReadyH.nil
            case hi_v7 => ((simp only [List.getElem?_toArray, List.getElem?_cons_succ, List.getElem?_cons_zero]); rfl)
            go_simp
            have HT10 := Lib.hid (HT9.out.set 1 (.slice pa2 (k + 1) pc2))
            have HZ10 := Lib.hid (HZ9.out.far (a := ⟨(w.heap.size + 2), 1, none⟩) (show (w.heap.size + 2) ≠ w.heap.size by omega) (.slice pa2 (k + 1) pc2))
            have HO10 := Lib.hid (OwnR.setCell HO9.out (a := ⟨(w.heap.size + 2), 1, none⟩) (show (w.heap.size + 2) < (w.heap.size + 3) by omega) (.slice pa2 (k + 1) pc2))
            have hb10 := belSet hbw9 ⟨(w.heap.size + 2), 1, none⟩ (.slice pa2 (k + 1) pc2) (by show w.heap.size ≤ w.heap.size + 2; omega)
            have hz10 : (w9.setCell ⟨(w.heap.size + 2), 1, none⟩ (.slice pa2 (k + 1) pc2)).heap.size = w9.heap.size := by simp
            have HPV := Lib.hid (fun (lz : List Int) (fz : Bool) (h : RdS a8 (w.heap.size + 1) X lz fz) => (show ∃ X', RdS (w9.setCell ⟨(w.heap.size + 2), 1, none⟩ (.slice pa2 (k + 1) pc2)) (w.heap.size + 1) X' lz fz ∧ (∀ M ∈ X, M ∈ X') ∧ (∀ q, (Value.slice pa2 (k + 1) pc2).ownBlock = some q → q ∈ X') ∧ (∀ M ∈ X', M ∈ X ∨ (Value.slice pa2 (k + 1) pc2).ownBlock = some M) from by obtain ⟨X', h1, h2, h3, h4⟩ := HPU.out lz fz h; exact ⟨X', h1.far (h2 _ HX.out.1.1) hneT 1 _, h2, h3, h4⟩))
            clear y1 yf HPU HT9 HZ9 HO9
            generalize w9.setCell ⟨(w.heap.size + 2), 1, none⟩ (.slice pa2 (k + 1) pc2) = w10 at *
            refine hK.out _ _ (by exact hb10) (fun hHeld => ?_)
            clear hK K
            try simp only [Act.put, List.setIfInBounds_toArray, List.set_cons_zero, List.set_cons_succ]
            refine wpAnyH_done (by kernel_rfl) ?_ _
            have HLN := Lib.hid (show (L ++ [x]).length = k + 1 by rw [List.length_append, HLK.out]; rfl)
            have HON := Lib.hid (show OwnR w10 (w.heap.size + 3) 46 12 (.slice pa2 (k + 1) pc2) (k + 1) ((L ++ [x]).flatMap EntV.cells) from by rw [List.flatMap_append]; simpa using HO10.out)
            have HKN := Lib.hid (show ∀ y ∈ L ++ [x], y.ok from fun y hy => by rcases List.mem_append.1 hy with h | h; exact HOK.out y h; simp only [List.mem_singleton] at h; rw [h]; exact HXO.out)
            have HXL := Lib.hid (fun M (h : M ∈ X) => Nat.lt_of_lt_of_le (Nat.lt_of_lt_of_le (HX.out.2.2 M h) hs08) (show a8.heap.size ≤ w10.heap.size by omega))
            have HLB2 := Lib.hid (show ∀ q, (Value.slice pa2 (k + 1) pc2).ownBlock = some q → q < w10.heap.size from fun q h => by have := HLB.out q h; omega)
            have HFIN := Lib.hid (show ∃ (lz : List Int) (fz : Bool), RdS a8 (w.heap.size + 1) X lz fz ∧ Bytes lz ∧ GetL l l3 f3 (k + 1) (L ++ [x]) lz fz from by
              rcases HXR.out with ⟨r2, he, hr⟩ | ⟨he, r2, hr, hb2⟩
              · refine ⟨r2, false, hr.later HQA.out, entF_B HBK.out he, .inl ⟨rfl, HEF.out.1, ?_⟩⟩
                simp only [entsF, HEF.out.2, he]
              · refine ⟨r2, true, hr.later HQA.out, hb2, .inr ⟨rfl, fun r o M hG => ?_⟩⟩
                have hn : entsF l3 (k + 1) = none := by simp only [entsF, HEF.out.2, he]
                have hn2 := entsF_none hn (show k + 1 ≤ cn by omega)
                rcases HPN.out with ⟨h1, h2⟩ | ⟨h1, h2, h3, h4, h5, h6, h7⟩
                · exact h2 r o M hG
                · have h8 := hG.2.2.2.1
                  rw [← h7, ← h6, Int.toNat_natCast, hn2] at h8
                  cases h8)
            obtain ⟨lz, fz, hrz, hbz, hgz⟩ := HFIN.out
            obtain ⟨X2, hx1, hx2, hx3, hx4⟩ := HPV.out lz fz hrz
            clear HFIN HPV hHeld
            obtain ⟨gq, rfl⟩ : ∃ gq, gk = gq + 1 := ⟨gk - 1, by omega⟩
            go_wp2
            go_roundg gq
            case rel => exact ⟨k + 1, L ++ [x], lz, fz, pa2, pc2, X2, by omega, by omega, HLN, HT10, HZ10, HON, Lib.hid hx1, Lib.hid ⟨⟨hx2 _ HX.out.1.1, hx2 _ HX.out.1.2⟩, hx3, fun M hM => by rcases hx4 M hM with h | h; exact HXL.out M h; exact HLB2.out M h⟩, Lib.hid hbz, HKN, Lib.hid hgz, by omega, hb10⟩
            case measure => omega
          case rest2_w11 =>
            go_simp
            have HRX := Lib.hid (row_new q (EntV.cells x) 46 1 12 rfl (by unfold maxLen; omega))
            have HQA := Lib.hid (belAlloc (Below.refl q.heap.size q) (.cells #[.string x.pod.id, .int .i64 x.pod.prio, .bool x.pod.crit, .int .i64 x.pod.r0, .int .i64 x.pod.r1, .int .i64 x.pod.r2, .int .i64 x.pod.l0, .int .i64 x.pod.l1, .int .i64 x.pod.l2, .string x.pod.img, .int .i64 x.pod.size, .int .i64 x.phase] 46))
            have HT8 := Lib.hid (HTq.out.later HQA.out)
            have HZ8 := Lib.hid (HZq.out.later HQA.out)
            have HO8 := Lib.hid (OwnR.later HOq.out HQA.out)
            have HB8 := Lib.hid (belStep HBq.out HQA.out)
            have hs08 : wr.heap.size ≤ (q.alloc (.cells #[.string x.pod.id, .int .i64 x.pod.prio, .bool x.pod.crit, .int .i64 x.pod.r0, .int .i64 x.pod.r1, .int .i64 x.pod.r2, .int .i64 x.pod.l0, .int .i64 x.pod.l1, .int .i64 x.pod.l2, .string x.pod.img, .int .i64 x.pod.size, .int .i64 x.phase] 46)).heap.size := by have := HQA.out.size; omega
            replace HRX := Lib.hid (show Row (q.alloc (.cells #[.string x.pod.id, .int .i64 x.pod.prio, .bool x.pod.crit, .int .i64 x.pod.r0, .int .i64 x.pod.r1, .int .i64 x.pod.r2, .int .i64 x.pod.l0, .int .i64 x.pod.l1, .int .i64 x.pod.l2, .string x.pod.img, .int .i64 x.pod.size, .int .i64 x.phase] 46)) (some ⟨q.heap.size, 0, none⟩) 1 1 12 (EntV.cells x) from HRX.out)
            have hz8 : (w.heap.size + 3) ≤ (q.alloc (.cells #[.string x.pod.id, .int .i64 x.pod.prio, .bool x.pod.crit, .int .i64 x.pod.r0, .int .i64 x.pod.r1, .int .i64 x.pod.r2, .int .i64 x.pod.l0, .int .i64 x.pod.l1, .int .i64 x.pod.l2, .string x.pod.img, .int .i64 x.pod.size, .int .i64 x.phase] 46)).heap.size := by omega
            clear t1
            generalize q.alloc (.cells #[.string x.pod.id, .int .i64 x.pod.prio, .bool x.pod.crit, .int .i64 x.pod.r0, .int .i64 x.pod.r1, .int .i64 x.pod.r2, .int .i64 x.pod.l0, .int .i64 x.pod.l1, .int .i64 x.pod.l2, .string x.pod.img, .int .i64 x.pod.size, .int .i64 x.phase] 46) = a8 at *
            have hb8 := HB8.out
            refine hK.out _ _ (by exact hb8) (fun hHeld => ?_)
            clear hK K
            try simp only [Act.put, List.setIfInBounds_toArray, List.set_cons_zero, List.set_cons_succ]
            have t1 := HT8.out.cell (j := 1) rfl
            refine wpAnyH_ready (rs := [1]) (by kernel_rfl) (by simp) ?_
            refine AllReadyH.cons (o := ?o1_v8) ?hi_v8 (fun K hK => ?rest_v8) AllReadyH.nil
            case hi_v8 => ((simp only [List.getElem?_toArray, List.getElem?_cons_succ, List.getElem?_cons_zero]); rfl)
            go_simp
            refine hK.out _ _ (by exact (show Below w.heap.size w _ by assumption)) (fun hHeld => ?_)
            clear hK K
            try simp only [Act.put, List.setIfInBounds_toArray, List.set_cons_zero, List.set_cons_succ]
            refine wpAnyH_ready (rs := [5]) (by kernel_rfl) (by simp) ?_
            refine AllReadyH.cons (o := ?o1_v9) ?hi_v9 (fun K hK => ?rest_v9) AllReadyH.nil
            case hi_v9 => ((simp only [List.getElem?_toArray, List.getElem?_cons_succ, List.getElem?_cons_zero]); rfl)
            refine op_appS rfl _ _ 22 rfl (w.heap.size + 3) 46 _ 12 112 Try.underlying22 info_entG rfl (by decide) _ k _ (by rfl) HO8.out _ 1 1 (EntV.cells x) (by rfl) HRX.out (ent_oneG x) (by unfold maxLen; omega) (by omega) (by omega) ?_
            intro v9 w9 ho9 hb9 hg9 hm9
            have hbw9 : Below w.heap.size w w9 := HB8.out.trans (hb9.mono (by omega))
            refine hK.out _ _ (by exact hbw9) (fun hHeld => ?_)
            clear hK K
            try simp only [Act.put, List.setIfInBounds_toArray, List.set_cons_zero, List.set_cons_succ]
            obtain ⟨pa2, pc2, e2, _⟩ := rowR_of_own ho9
            subst e2
            have HT9 := Lib.hid (HT8.out.below hb9 (show (w.heap.size + 2) < (w.heap.size + 3) by omega))
            have HZ9 := Lib.hid (HZ8.out.below hb9 (show w.heap.size < (w.heap.size + 3) by omega))
            have hs8 : (w.heap.size + 1) < a8.heap.size := by have := HT8.out.lt; omega
            have hnb : (Value.slice pa k pc).ownBlock ≠ some (w.heap.size + 1) := fun e => by have := (World.ownsRow.lt HO8.out _ e).1; omega
            have HLB := Lib.hid (fun q h => (World.ownsRow.lt ho9 q h).2)
            have HO9 := Lib.hid ho9
            have hs9 := hg9.size
            have hxin : ∀ q, (Value.slice pa k pc).ownBlock = some q → q ∈ X := HX.out.2.1
            have HPU := Lib.hid (fun (lz : List Int) (fz : Bool) (h : RdS a8 (w.heap.size + 1) X lz fz) => rd_push h hg9 hxin hm9 hs8 hnb)
            clear ho9 hg9 hm9 hb9
            have y1 := HT9.out.cell (j := 1) rfl
            have yf := HT9.out.frozen
            refine wpAnyH_take (i := 6) (oi := ?oi_k5) (v := ?v_k5) ?hi_k5 (by kernel_rfl) ?hf_k5 ?hr_k5 ?hQ_k5 (Or.inl ⟨?hw_k5, ?hy_k5⟩) (by assumption) ?rest_k5
            case hi_k5 => ((simp only [List.getElem?_toArray, List.getElem?_cons_succ, List.getElem?_cons_zero]); rfl)
            case hf_k5 => kernel_rfl
            case hr_k5 => kernel_rfl
            case hQ_k5 => exact fun _ _ _ h => h
            case hw_k5 => rfl
            case hy_k5 => ((intro w hSw; (try dsimp only at hSw); go_simp); all_goals (with_reducible rfl))
            try simp only [Act.put, List.setIfInBounds_toArray, List.set_cons_zero, List.set_cons_succ]
            refine wpAnyH_ready (rs := [7]) (by kernel_rfl) (by simp) ?_
            refine AllReadyH.cons (o := ?o1_v10) ?hi_v10 (fun K hK => ?rest_v10) AllReadyH.nil
            case hi_v10 => ((simp only [List.getElem?_toArray, List.getElem?_cons_succ, List.getElem?_cons_zero]); rfl)
            go_simp
            have HT10 := Lib.hid (HT9.out.set 1 (.slice pa2 (k + 1) pc2))
            have HZ10 := Lib.hid (HZ9.out.far (a := ⟨(w.heap.size + 2), 1, none⟩) (show (w.heap.size + 2) ≠ w.heap.size by omega) (.slice pa2 (k + 1) pc2))
            have HO10 := Lib.hid (OwnR.setCell HO9.out (a := ⟨(w.heap.size + 2), 1, none⟩) (show (w.heap.size + 2) < (w.heap.size + 3) by omega) (.slice pa2 (k + 1) pc2))
            have hb10 := belSet hbw9 ⟨(w.heap.size + 2), 1, none⟩ (.slice pa2 (k + 1) pc2) (by show w.heap.size ≤ w.heap.size + 2; omega)
            have hz10 : (w9.setCell ⟨(w.heap.size + 2), 1, none⟩ (.slice pa2 (k + 1) pc2)).heap.size = w9.heap.size := by simp
            have HPV := Lib.hid (fun (lz : List Int) (fz : Bool) (h : RdS a8 (w.heap.size + 1) X lz fz) => (show ∃ X', RdS (w9.setCell ⟨(w.heap.size + 2), 1, none⟩ (.slice pa2 (k + 1) pc2)) (w.heap.size + 1) X' lz fz ∧ (∀ M ∈ X, M ∈ X') ∧ (∀ q, (Value.slice pa2 (k + 1) pc2).ownBlock = some q → q ∈ X') ∧ (∀ M ∈ X', M ∈ X ∨ (Value.slice pa2 (k + 1) pc2).ownBlock = some M) from by obtain ⟨X', h1, h2, h3, h4⟩ := HPU.out lz fz h; exact ⟨X', h1.far (h2 _ HX.out.1.1) hneT 1 _, h2, h3, h4⟩))
            clear y1 yf HPU HT9 HZ9 HO9
            generalize w9.setCell ⟨(w.heap.size + 2), 1, none⟩ (.slice pa2 (k + 1) pc2) = w10 at *
            refine hK.out _ _ (by exact hb10) (fun hHeld => ?_)
            clear hK K
            try simp only [Act.put, List.setIfInBounds_toArray, List.set_cons_zero, List.set_cons_succ]
            refine wpAnyH_done (by kernel_rfl) ?_ _
            have HLN := Lib.hid (show (L ++ [x]).length = k + 1 by rw [List.length_append, HLK.out]; rfl)
            have HON := Lib.hid (show OwnR w10 (w.heap.size + 3) 46 12 (.slice pa2 (k + 1) pc2) (k + 1) ((L ++ [x]).flatMap EntV.cells) from by rw [List.flatMap_append]; simpa using HO10.out)
            have HKN := Lib.hid (show ∀ y ∈ L ++ [x], y.ok from fun y hy => by rcases List.mem_append.1 hy with h | h; exact HOK.out y h; simp only [List.mem_singleton] at h; rw [h]; exact HXO.out)
            have HXL := Lib.hid (fun M (h : M ∈ X) => Nat.lt_of_lt_of_le (Nat.lt_of_lt_of_le (HX.out.2.2 M h) hs08) (show a8.heap.size ≤ w10.heap.size by omega))
            have HLB2 := Lib.hid (show ∀ q, (Value.slice pa2 (k + 1) pc2).ownBlock = some q → q < w10.heap.size from fun q h => by have := HLB.out q h; omega)
            have HFIN := Lib.hid (show ∃ (lz : List Int) (fz : Bool), RdS a8 (w.heap.size + 1) X lz fz ∧ Bytes lz ∧ GetL l l3 f3 (k + 1) (L ++ [x]) lz fz from by
              rcases HXR.out with ⟨r2, he, hr⟩ | ⟨he, r2, hr, hb2⟩
              · refine ⟨r2, false, hr.later HQA.out, entF_B HBK.out he, .inl ⟨rfl, HEF.out.1, ?_⟩⟩
                simp only [entsF, HEF.out.2, he]
              · refine ⟨r2, true, hr.later HQA.out, hb2, .inr ⟨rfl, fun r o M hG => ?_⟩⟩
                have hn : entsF l3 (k + 1) = none := by simp only [entsF, HEF.out.2, he]
                have hn2 := entsF_none hn (show k + 1 ≤ cn by omega)
                rcases HPN.out with ⟨h1, h2⟩ | ⟨h1, h2, h3, h4, h5, h6, h7⟩
                · exact h2 r o M hG
                · have h8 := hG.2.2.2.1
                  rw [← h7, ← h6, Int.toNat_natCast, hn2] at h8
                  cases h8)
            obtain ⟨lz, fz, hrz, hbz, hgz⟩ := HFIN.out
            obtain ⟨X2, hx1, hx2, hx3, hx4⟩ := HPV.out lz fz hrz
            clear HFIN HPV hHeld
            obtain ⟨gq, rfl⟩ : ∃ gq, gk = gq + 1 := ⟨gk - 1, by omega⟩
            go_wp2
            go_roundg gq
            case rel => exact ⟨k + 1, L ++ [x], lz, fz, pa2, pc2, X2, by omega, by omega, HLN, HT10, HZ10, HON, Lib.hid hx1, Lib.hid ⟨⟨hx2 _ HX.out.1.1, hx2 _ HX.out.1.2⟩, hx3, fun M hM => by rcases hx4 M hM with h | h; exact HXL.out M h; exact HLB2.out M h⟩, Lib.hid hbz, HKN, Lib.hid hgz, by omega, hb10⟩
            case measure => omega
      · obtain rfl : k = cn := by omega
        have hd : decide ((k : Int) < (k : Int)) = false := decide_eq_false (by omega)
        by_cases hlk : lk = []
        · subst hlk
          obtain rfl : qn = 0 := by simpa using hqb.1.symm
          have hrow : Row wr pa k pc 12 (L.flatMap EntV.cells) := by obtain ⟨a2, c2, e2, hr⟩ := rowR_of_own HO.out; simp only [Value.slice.injEq] at e2; obtain ⟨rfl, _, rfl⟩ := e2; exact hr
          obtain ⟨sb, hsb⟩ : ∃ z, stB rv L = z := ⟨_, rfl⟩
          have CR := Lib.hid (show Calls Try.prog 14 #[.agg #[.int .i64 rv, .slice pa k pc, .bool o.a, .bool o.b, .bool o.c]] wr fun e w' => e = .returned (.bool sb) ∧ Below wr.heap.size wr w' from hsb ▸ st_Right rv pa k pc o L wr HLK.out HOK.out hrow)
          have HSB := Lib.hid hsb
          clear hsb hrow hq2
          have s0 := keep (HT.out.cell (j := 0) rfl)
          have s1 := keep (HT.out.cell (j := 1) rfl)
          have s2 := keep (HT.out.cell (j := 2) rfl)
          have s3 := keep (HT.out.cell (j := 3) rfl)
          have s4 := keep (HT.out.cell (j := 4) rfl)
          have zk0 := keep (HZ.out.cell (j := 0) rfl)
          have zk1 := keep (HZ.out.cell (j := 1) rfl)
          have zk2 := keep (HZ.out.cell (j := 2) rfl)
          have zk3 := keep (HZ.out.cell (j := 3) rfl)
          have zk4 := keep (HZ.out.cell (j := 4) rfl)
          have hbel : Below wr.heap.size wr wr := Below.refl _ _
          have y0 := s0 wr hbel
          have y1 := s1 wr hbel
          have y2 := s2 wr hbel
          have y3 := s3 wr hbel
          have y4 := s4 wr hbel
          skip
          cases sb with
          | false =>
            have HNO := Lib.hid (show ∀ r o M, ¬ GetOK l r o M from fun r2 o2 M hG => by
              rcases HPN.out with ⟨h1, h2⟩ | ⟨h1, h2, h3, h4, h5, h6, h7⟩
              · exact h2 r2 o2 M hG
              · obtain ⟨_, g2, _, g4, g5⟩ := hG
                rw [← h7, ← h6, Int.toNat_natCast, HEF.out.2] at g4
                simp only [Option.some.injEq, Prod.mk.injEq, and_true] at g4
                rw [g2, ← h3, HRV.out, ← g4, HSB.out] at g5
                cases g5)
            go_wp2_with (go_at_call 14; (with_reducible refine (CR.out).mono ?_); rintro e w5 ⟨rfl, hb5⟩; have HZ9 := Lib.hid (HZ.out.later hb5); have HB9 := Lib.hid (belStep HBR.out hb5); have HO9 := Lib.hid (OwnR.later HO.out hb5); have v0 := s0 w5 hb5; have v1 := s1 w5 hb5; have v2 := s2 w5 hb5; have v3 := s3 w5 hb5; have v4 := s4 w5 hb5; have z0 := zk0 w5 hb5; have z1 := zk1 w5 hb5; have z2 := zk2 w5 hb5; have z3 := zk3 w5 hb5; have z4 := zk4 w5 hb5; have zf := HZ9.out.frozen; clear hb5)
            refine get_ret _ w.heap.size _ 0 3 (.slice none 0 0) false false false _ rfl rfl (((((HZ9.out.set 0 (.int .i64 0)).set 1 (.slice none 0 0)).set 2 (.bool false)).set 3 (.bool false)).set 4 (.bool false)) ⟨.inr ⟨HNO.out, rfl⟩, (belSet (belSet (belSet (belSet (belSet HB9.out ⟨w.heap.size, 0, none⟩ (.int .i64 0) (Nat.le_refl _)) ⟨w.heap.size, 1, none⟩ (.slice none 0 0) (Nat.le_refl _)) ⟨w.heap.size, 2, none⟩ (.bool false) (Nat.le_refl _)) ⟨w.heap.size, 3, none⟩ (.bool false) (Nat.le_refl _)) ⟨w.heap.size, 4, none⟩ (.bool false) (Nat.le_refl _))⟩
          | true =>
            have HGO := Lib.hid (show GetOK l rv o L from by
              rcases HPN.out with ⟨h1, h2⟩ | ⟨h1, h2, h3, h4, h5, h6, h7⟩
              · rw [HEF.out.1] at h1; cases h1
              · refine ⟨h2, by rw [← HRV.out, h3], by rw [← h4]; exact HOV.out (by omega), ?_, HSB.out⟩
                rw [← h7, ← h6, Int.toNat_natCast]; exact HEF.out.2)
            go_wp2_with (go_at_call 14; (with_reducible refine (CR.out).mono ?_); rintro e w5 ⟨rfl, hb5⟩; have HZ9 := Lib.hid (HZ.out.later hb5); have HB9 := Lib.hid (belStep HBR.out hb5); have HO9 := Lib.hid (OwnR.later HO.out hb5); have v0 := s0 w5 hb5; have v1 := s1 w5 hb5; have v2 := s2 w5 hb5; have v3 := s3 w5 hb5; have v4 := s4 w5 hb5; have z0 := zk0 w5 hb5; have z1 := zk1 w5 hb5; have z2 := zk2 w5 hb5; have z3 := zk3 w5 hb5; have z4 := zk4 w5 hb5; have zf := HZ9.out.frozen; clear hb5)
            refine get_ret _ w.heap.size _ rv 0 (.slice pa k pc) o.a o.b o.c _ rfl rfl (((((HZ9.out.set 0 (.int .i64 rv)).set 1 (.slice pa k pc)).set 2 (.bool o.a)).set 3 (.bool o.b)).set 4 (.bool o.c)) ⟨.inl ⟨rv, o, L, pa, pc, HGO.out, by rw [HLK.out], ?_, HOK.out⟩, (belSet (belSet (belSet (belSet (belSet HB9.out ⟨w.heap.size, 0, none⟩ (.int .i64 rv) (Nat.le_refl _)) ⟨w.heap.size, 1, none⟩ (.slice pa k pc) (Nat.le_refl _)) ⟨w.heap.size, 2, none⟩ (.bool o.a) (Nat.le_refl _)) ⟨w.heap.size, 3, none⟩ (.bool o.b) (Nat.le_refl _)) ⟨w.heap.size, 4, none⟩ (.bool o.c) (Nat.le_refl _))⟩
            rw [HLK.out]
            exact OwnR.mono (OwnR.setCell (OwnR.setCell (OwnR.setCell (OwnR.setCell (OwnR.setCell HO9.out (show w.heap.size < (w.heap.size + 3) by omega) _) (show w.heap.size < (w.heap.size + 3) by omega) _) (show w.heap.size < (w.heap.size + 3) by omega) _) (show w.heap.size < (w.heap.size + 3) by omega) _) (show w.heap.size < (w.heap.size + 3) by omega) _) (by omega)
        · have hqn : 0 < qn := by have := hqb.1; rcases lk with _ | ⟨y, t⟩; exact absurd rfl hlk; simp at this; omega
          have hq5 : decide ((0 : Int) < (qn : Int)) = true := decide_eq_true (by omega)
          have hq6 : (0 : Int) < (qn : Int) := by omega
          have HNO := Lib.hid (show ∀ r o M, ¬ GetOK l r o M from fun r2 o2 M hG => by
            rcases HPN.out with ⟨h1, h2⟩ | ⟨h1, h2, h3, h4, h5, h6, h7⟩
            · exact h2 r2 o2 M hG
            · have g4 := hG.2.2.2.1
              rw [← h7, ← h6, Int.toNat_natCast, HEF.out.2] at g4
              simp only [Option.some.injEq, Prod.mk.injEq] at g4
              exact hlk g4.2)
          clear hq2
          have z0 := HZ.out.cell (j := 0) rfl
          have z1 := HZ.out.cell (j := 1) rfl
          have z2 := HZ.out.cell (j := 2) rfl
          have z3 := HZ.out.cell (j := 3) rfl
          have z4 := HZ.out.cell (j := 4) rfl
          have zf := HZ.out.frozen
          have HZ9 := HZ
          have HB9 := HBR
          go_wp2
          refine get_ret _ w.heap.size _ 0 3 (.slice none 0 0) false false false _ rfl rfl (((((HZ9.out.set 0 (.int .i64 0)).set 1 (.slice none 0 0)).set 2 (.bool false)).set 3 (.bool false)).set 4 (.bool false)) ⟨.inr ⟨HNO.out, rfl⟩, (belSet (belSet (belSet (belSet (belSet HB9.out ⟨w.heap.size, 0, none⟩ (.int .i64 0) (Nat.le_refl _)) ⟨w.heap.size, 1, none⟩ (.slice none 0 0) (Nat.le_refl _)) ⟨w.heap.size, 2, none⟩ (.bool false) (Nat.le_refl _)) ⟨w.heap.size, 3, none⟩ (.bool false) (Nat.le_refl _)) ⟨w.heap.size, 4, none⟩ (.bool false) (Nat.le_refl _))⟩
end Go.Proofs.Ytpmkhimmlpnbpaa
