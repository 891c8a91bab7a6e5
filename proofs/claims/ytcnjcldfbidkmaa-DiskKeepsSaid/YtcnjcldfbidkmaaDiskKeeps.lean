
/- DiskKeeps holds for every list of ops. No conditions. -/
import Derived.Test.YtcnjcldfbidkmaaDkC
namespace Go.Proofs.Ytcnjcldfbidkmaa.diskKeeps
open Go.ChangeShapes Go.WideShapes Go.ChangeAt Go.RowKit
open Go.ChangeMaps (open_string shut_string)
set_option linter.unusedVariables false
open Go.RowKit Go.Sort Go.Maps Go.WideMaps
set_option linter.unusedSimpArgs false
def OwnS (w : World) (B : Nat) (v : Value) (n : Nat) (G : List ByteArray) : Prop := G.length = n ∧ OwnR w B 9 1 v n (G.map Value.string)
theorem OwnS.later {u w : World} {B n : Nat} {v : Value} {G : List ByteArray} (h : OwnS u B v n G) (hb : Below u.heap.size u w) : OwnS w B v n G := ⟨h.1, OwnR.later h.2 hb⟩
theorem OwnS.cellAt {w : World} {B g n cap : Nat} {G : List ByteArray} (h : OwnS w B (.slice (some ⟨g, 0, none⟩) n cap) n G) {i : Nat} {s : ByteArray} (hi : G[i]? = some s) : w.cell? ⟨g, i, none⟩ = some (.string s) := by
  obtain ⟨hl, h⟩ := h
  have hlt : i < G.length := by rw [List.getElem?_eq_some_iff] at hi; exact hi.1
  have := World.ownsRow.cellAt h i (by omega)
  rw [this]
  simp [hi]
theorem OwnS.frozenAt {w : World} {B g n cap : Nat} {G : List ByteArray} (h : OwnS w B (.slice (some ⟨g, 0, none⟩) n cap) n G) (i : Nat) : w.frozen? ⟨g, i, none⟩ = false := World.ownsRow.frozenAt h.2 i
theorem OwnS.set {w : World} {B g n cap : Nat} {G : List ByteArray} (h : OwnS w B (.slice (some ⟨g, 0, none⟩) n cap) n G) (i : Nat) (u : ByteArray) : OwnS (w.setCell ⟨g, i, none⟩ (.string u)) B (.slice (some ⟨g, 0, none⟩) n cap) n (G.set i u) := by
  refine ⟨by rw [List.length_set]; exact h.1, ?_⟩
  rw [List.map_set]
  exact (World.ownsRow.stored h.2 i (.string u)).1
theorem OwnS.open {w : World} {B n cap : Nat} {a : Option Addr} {G : List ByteArray} (h : OwnS w B (.slice a n cap) n G) (h0 : 0 < n) : ∃ g, a = some ⟨g, 0, none⟩ ∧ B ≤ g ∧ g < w.heap.size ∧ n ≤ cap ∧ cap ≤ 9223372036854775807 := by
  rcases own_open h.2 with ⟨_, e, _⟩ | ⟨g, c, C, e, h1, h2, h3, h4, _⟩
  · omega
  · simp only [Value.slice.injEq, true_and] at e
    obtain ⟨rfl, rfl⟩ := e
    exact ⟨g, rfl, h1, h2.lt, h3, by unfold maxLen at h4; omega⟩
theorem Free.blk {X : List Nat} {u w : World} {M : Nat} {C : List Value} {T : TypeId} (h : Free X u w) (hb : Blk u M C T) (hX : M ∈ X) : Blk w M C T := by
  obtain ⟨F, hA, hF⟩ := h
  exact hb.apart hA (hF M hX)
set_option maxRecDepth 100000 in
set_option maxHeartbeats 32000000 in
theorem walk (a : Option Addr) (n c : Nat) (L : List OpV) (w : World) (hl : L.length = n) (hg : ∀ x ∈ L, x.good w) (hR : Row w a n c 4 (L.flatMap OpV.cells)) :
    Calls Try.prog 8 #[.slice a n c] w fun e w' => e = .returned (.bool true) ∧ Below w.heap.size w w' := by
  have hw : Below w.heap.size w w := Below.refl _ _
  have hbel := hw
  have hbd_a : n ≤ c ∧ c ≤ 9223372036854775807 := by obtain ⟨_, h1, h2, _⟩ := hR; unfold maxLen at h2; exact ⟨h1, h2⟩
  obtain ⟨hbd1_a, hbd2_a⟩ := hbd_a
  subst hl
  obtain ⟨f0, hf0⟩ : ∃ q, fewO L = q := ⟨_, rfl⟩
  have CF0 := Lib.hid (fun u (hu : Below w.heap.size w u) => hf0 ▸ few_10O a L.length c L u rfl (Row.later hR hu) (fun y hy => OpV.good.later (hg y hy) hu))
  have HF0 := Lib.hid hf0
  have HR := Lib.hid hR
  have HG := Lib.hid hg
  clear hR hg hf0
  go_enter Try.func8, Try.ntmps8
  cases f0 with
  | false =>
    go_wp2_with (first | (go_at_call 30; (with_reducible refine (awake_10 _).mono ?_); rintro e wa ⟨rfl, ha⟩; replace hbel := belStep hbel ha; clear ha) | (go_at_call 42; (with_reducible refine (CF0.out _ hbel).mono ?_); rintro e wf0 ⟨rfl, hf⟩; replace hbel := belStep hbel hf; clear hf))
    go_ret
    exact ⟨rfl, hbel⟩
  | true =>
    have hn50 : L.length ≤ 50 := fewO_len HF0.out
    go_upto_region 4 with (first | (go_at_call 30; (with_reducible refine (awake_10 _).mono ?_); rintro e wa ⟨rfl, ha⟩; replace hbel := belStep hbel ha; clear ha) | (go_at_call 42; (with_reducible refine (CF0.out _ hbel).mono ?_); rintro e wf0 ⟨rfl, hf⟩; replace hbel := belStep hbel hf; clear hf) | (go_at_call 32; (with_reducible refine (pl_New w.heap.size [] [] _ (Pool.nil _ _ _) (fun b hb => absurd hb List.not_mem_nil) hbel.size).mono ?_); rintro e w1 ⟨M, rfl, hp_, hb_⟩; have HP1 := Lib.hid hp_; replace hbel := belStep hbel hb_; clear hp_ hb_))
    clear hw CF0
    go_upto_region 7 with (go_at_call 32; (with_reducible refine (pl_New w.heap.size [] _ _ HP1.out (fun b hb => absurd hb List.not_mem_nil) hbel.size).mono ?_); rintro e w2 ⟨N, rfl, hp_, hb_⟩; have HP := Lib.hid (Pool.swap hp_); have hbz := belStep hbel hb_; clear hp_ hb_ hbel; have hbel := hbz; clear hbz)
    clear HP1
    obtain ⟨sz, hsz⟩ : ∃ s, (⟨[], [], 0⟩ : DiskV) = s := ⟨_, rfl⟩
    have HSC := Lib.hid (show sz.cap + sz.done.length ≤ 0 from hsz ▸ Nat.le_refl _)
    have HGZ := Lib.hid (show GoodD sz from hsz ▸ GoodD.new)
    rw [hsz] at HP
    clear hsz
    go_wp2
    go_loopw [5] (fun iv wr => ∃ k : Nat, k ≤ L.length ∧ iv = .int .i64 k ∧ Hid (Pool w.heap.size wr [] [(M, dosW sz (L.take k)), (N, dosW sz (L.take k))]) ∧ Below w.heap.size w wr) (fun iv _ => L.length - (intOf iv).toNat)
    case atStart => exact ⟨0, Nat.zero_le _, rfl, HP, hbel⟩
    case round =>
      clear hbel HP
      obtain ⟨k, hk, rfl, HP, hbel⟩ := hrel
      by_cases hlt : k < L.length
      · have hd : decide ((k : Int) < (L.length : Int)) = true := decide_eq_true (by omega)
        have hki : (k : Int) < (L.length : Int) := by omega
        have hk0 : (0 : Int) ≤ (k : Int) := by omega
        obtain ⟨o, ho⟩ : ∃ o, L[k]? = some o := ⟨L[k], List.getElem?_eq_getElem hlt⟩
        obtain ⟨bc, oc, ec, _, hcc⟩ := (HR.out).elem OpV.cells_len (by omega) ho
        subst ec
        have c0 := keep (hcc 0 _ rfl)
        have c1 := keep (hcc 1 _ rfl)
        have c2 := keep (hcc 2 _ rfl)
        have c3 := keep (hcc 3 _ rfl)
        rw [Nat.add_zero] at c0
        have HNX := Lib.hid (dosW_next (d := sz) ho)
        have HGX := Lib.hid (HG.out o (List.mem_of_getElem? ho))
        have hzl := opB_Z (fewO_op HF0.out (List.mem_of_getElem? ho))
        have hsm := dosW_small (L.take k) sz
        obtain ⟨hm1, _, hm3⟩ := hsm
        rw [List.length_take] at hm3
        have hcs := HSC.out
        have HCS := Lib.hid (show (dosW sz (L.take k)).cap + (dosW sz (L.take k)).done.length ≤ 100 by rw [hm1]; omega)
        clear ho hcc hm1 hm3 hcs
        obtain ⟨s, hs⟩ : ∃ s, dosW sz (L.take k) = s := ⟨_, rfl⟩
        rw [hs] at HP HNX HCS
        clear hs
        have hzb1 : o.Z.length ≤ o.bc := HGX.out.1.1.2.1
        have hzb2 : o.bc ≤ 9223372036854775807 := by have := HGX.out.1.1.2.2.1; unfold maxLen at this; omega
        go_upto_region 11 with fail
        have kB := belAlloc (Below.refl wr.heap.size wr) (.cells #[.int .i64 o.kind, .string o.name, .string o.dst, .slice o.ba o.Z.length o.bc] 70)
        have HB5 := Lib.hid (belStep hbel kB)
        have HOB := Lib.hid (Blk.new wr [.int .i64 o.kind, .string o.name, .string o.dst, .slice o.ba o.Z.length o.bc] 70)
        have HPX := Lib.hid (fun (Y : List Nat) (hY : ∀ b ∈ Y, wr.heap.size ≤ b) => (HP.out.more (fun b hb => .inr (hY b hb))).later kB)
        have HOG := Lib.hid hbel.size
        have HW5 := Lib.hid (show (wr.alloc (.cells #[.int .i64 o.kind, .string o.name, .string o.dst, .slice o.ba o.Z.length o.bc] 70)).heap.size = wr.heap.size + 1 by simp)
        clear kB hbel
        generalize wr.alloc (.cells #[.int .i64 o.kind, .string o.name, .string o.dst, .slice o.ba o.Z.length o.bc] 70) = W5 at *
        generalize hobe : wr.heap.size = ob at *
        have HOBE := Lib.hid hobe
        clear hobe
        have hbel := HB5.out
        have hz9 := HGX.out.1.later (belStep HB5.out (belAlloc (Below.refl W5.heap.size W5) (.cells #[] 5)))
        go_upto_region 12 with (at_builtin; refine wpList_app_ints rfl _ _ 68 rfl W5.heap.size 5 .u8 1 Try.underlying68 info_u8D _ _ rfl (own_new W5 W5.heap.size 5 .u8 (Nat.le_refl _)) _ o.Z.length o.bc o.Z rfl hz9 (by simp only [maxLen, List.length_nil]; omega) (by simp only [List.length_nil]; omega) (by simp) ?_; intro v6 w6 ho6 hb6 hg6; rw [List.nil_append] at ho6; obtain ⟨ga, gc, rfl, hi6⟩ := ints_of_own ho6 HGX.out.1.2; have HO6 := Lib.hid ho6; have HB6 := Lib.hid ((belAlloc (Below.refl W5.heap.size W5) (.cells #[] 5)).trans hb6); clear ho6 hb6 hg6 hi6; have HOB6 := Lib.hid (HOB.out.later HB6.out); have y3 := HOB6.out.cell (j := 3) rfl; have yf := HOB6.out.frozen)
        have HOB7 := Lib.hid (show Blk (w6.setCell ⟨ob, 3, none⟩ (.slice ga o.Z.length gc)) ob [.int .i64 o.kind, .string o.name, .string o.dst, .slice ga o.Z.length gc] 70 from HOB6.out.set 3 _)
        have HO7 := Lib.hid (OwnI.setFar HO6.out (a := ⟨ob, 3, none⟩) (by have := HW5.out; show ob < W5.heap.size; omega) (.slice ga o.Z.length gc))
        have HP7 := Lib.hid (((HPX.out (ob :: (Value.slice ga o.Z.length gc).ownBlock.toList) (fun b hb => by have h2 := HW5.out; exact (List.mem_cons.1 hb).elim (fun z => by omega) (fun z => by have h3 := (own_type HO6.out (Option.mem_toList.1 z)).1; omega))).later HB6.out).mine ((Apart.refl (ob :: (Value.slice ga o.Z.length gc).ownBlock.toList) w6).set ⟨ob, 3, none⟩ (.slice ga o.Z.length gc) List.mem_cons_self))
        have HB7 := Lib.hid (belSet (belStep HB5.out HB6.out) ⟨ob, 3, none⟩ (.slice ga o.Z.length gc) HOG.out)
        have HOB5 := Lib.hid (show ob < W5.heap.size by have := HW5.out; omega)
        have HXO := Lib.hid (show ob ∈ (ob :: (Value.slice ga o.Z.length gc).ownBlock.toList) from List.mem_cons_self)
        have HXG := Lib.hid (show ∀ b, (Value.slice ga o.Z.length gc).ownBlock = some b → b ∈ (ob :: (Value.slice ga o.Z.length gc).ownBlock.toList) from fun b hb => List.mem_cons_of_mem _ (Option.mem_toList.2 hb))
        have HXL := Lib.hid (fun u (h1 : Blk u ob [.int .i64 o.kind, .string o.name, .string o.dst, .slice ga o.Z.length gc] 70) (h2 : OwnI u W5.heap.size 5 .u8 (.slice ga o.Z.length gc) o.Z) => show ∀ b ∈ (ob :: (Value.slice ga o.Z.length gc).ownBlock.toList), b < u.heap.size from fun b hb => (List.mem_cons.1 hb).elim (fun z => by subst z; exact h1.lt) (fun z => (own_type h2 (Option.mem_toList.1 z)).2.1))
        obtain ⟨XG, hXG⟩ : ∃ x, (ob :: (Value.slice ga o.Z.length gc).ownBlock.toList) = x := ⟨_, rfl⟩
        rw [hXG] at HP7 HXO HXG HXL
        clear hXG HO6 HOB6 HB6 HOB HPX HP y3 yf hbel hz9
        generalize (w6.setCell ⟨ob, 3, none⟩ (.slice ga o.Z.length gc)) = W7 at *
        have y0 := HOB7.out.cell (j := 0) rfl
        have y1 := HOB7.out.cell (j := 1) rfl
        have y2 := HOB7.out.cell (j := 2) rfl
        have y3 := HOB7.out.cell (j := 3) rfl
        obtain ⟨ga2, gc2, e2, hi7⟩ := ints_of_own HO7.out HGX.out.1.2
        simp only [Value.slice.injEq, true_and] at e2
        obtain ⟨rfl, rfl⟩ := e2
        have hgb1 : o.Z.length ≤ gc := hi7.1.2.1
        have hgb2 : gc ≤ 9223372036854775807 := by have := hi7.1.2.2.1; unfold maxLen at this; omega
        have CD := Lib.hid (show Calls Try.prog 33 #[.pointer (some ⟨M, 0, none⟩), .agg #[.int .i64 o.kind, .string o.name, .string o.dst, .slice ga o.Z.length gc]] W7 (fun e w' => e = .returned (.int .i64 (doE o.m)) ∧ Pool w.heap.size w' XG [(M, doW s o.m), (N, s)] ∧ Below w.heap.size W7 w' ∧ Free XG W7 w') from pl_Do w.heap.size M XG s [(N, s)] W7 HP7.out (HXL.out _ HOB7.out HO7.out) HB7.out.size (by have := HCS.out; omega) ⟨o.kind, o.name, o.dst, ga, gc, o.Z⟩ hi7 (by show o.Z.length ≤ 1000000; omega) HGX.out.2)
        clear hi7
        have hbel := HB7.out
        go_upto_region 13 with (go_at_call 33; (with_reducible refine (CD.out).mono ?_); rintro e w8 ⟨rfl, hp_, hb_, hf_⟩; have HP8 := Lib.hid (Pool.swap hp_); have HOB8 := Lib.hid (Free.blk hf_ HOB7.out HXO.out); have HO8 := Lib.hid (show OwnI w8 W5.heap.size 5 .u8 (.slice ga o.Z.length gc) o.Z from Free.own hf_ HO7.out HXG.out); have hbz := hbel.trans hb_; clear hbel; have hbel := hbz; clear hbz hp_ hb_ hf_)
        clear CD HP7 HOB7 HO7 HB7 y0 y1 y2 y3
        have CD := Lib.hid (pl_Do w.heap.size N XG s [(M, doW s o.m)] w8 HP8.out (HXL.out _ HOB8.out HO8.out) hbel.size (by have := HCS.out; omega) o (HGX.out.1.later hbel) (by omega) HGX.out.2)
        go_upto_region 14 with (go_at_call 33; (with_reducible refine (CD.out).mono ?_); rintro e w9 ⟨rfl, hp_, hb_, hf_⟩; have HP9 := Lib.hid (Pool.swap hp_); have HOB9 := Lib.hid (Free.blk hf_ HOB8.out HXO.out); have HO9 := Lib.hid (show OwnI w9 W5.heap.size 5 .u8 (.slice ga o.Z.length gc) o.Z from Free.own hf_ HO8.out HXG.out); have hbz := hbel.trans hb_; clear hbel; have hbel := hbz; clear hbz hp_ hb_ hf_)
        clear CD HP8 HOB8 HO8 c0 c1 c2 c3
        have HB9 := Lib.hid hbel
        clear hbel
        go_wp2
        go_loopw [7] (fun jv wz => ∃ (j : Nat) (Zj : List Int), j ≤ o.Z.length ∧ jv = .int .i64 j ∧ Hid (OwnI wz W5.heap.size 5 .u8 (.slice ga o.Z.length gc) Zj) ∧ Hid (Zj.length = o.Z.length) ∧ Hid (Blk wz ob [.int .i64 o.kind, .string o.name, .string o.dst, .slice ga o.Z.length gc] 70) ∧ Hid (Pool w.heap.size wz XG [(M, doW s o.m), (N, doW s o.m)]) ∧ Below w.heap.size w wz) (fun jv _ => o.Z.length - (intOf jv).toNat)
        case atStart => exact ⟨0, o.Z, Nat.zero_le _, rfl, HO9, Lib.hid rfl, HOB9, HP9, HB9.out⟩
        case round =>
          clear HO9 HOB9 HP9 HB9
          obtain ⟨j, Zj, hj, rfl, HO, HLZ, HOB, HP, hbel⟩ := hrel
          have y3 := HOB.out.cell (j := 3) rfl
          by_cases hjt : j < o.Z.length
          · have hd : decide ((j : Int) < (o.Z.length : Int)) = true := decide_eq_true (by omega)
            have hji : (j : Int) < (o.Z.length : Int) := by omega
            have hj0 : (0 : Int) ≤ (j : Int) := by omega
            obtain ⟨g, hga, hg1, hg2, _, _⟩ := HO.out.open HLZ.out (by omega)
            subst hga
            have x0 := HO.out.cellAt HLZ.out.symm hjt
            have f0 := HO.out.frozenAt HLZ.out.symm j
            obtain ⟨c9, hc9⟩ : ∃ c9, el Zj j = c9 := ⟨_, rfl⟩
            rw [hc9] at x0
            clear hc9
            have HG1 := Lib.hid hg1
            clear hg1
            go_upto_region 17 with fail
            go_region
            go_wp2
            go_roundw
            case rel => exact ⟨j + 1, Zj.set j (bits .xor .u8 c9 255), by omega, by push_cast; rfl, Lib.hid (OwnI.later (HO.out.set HLZ.out.symm j _) (belDrew (Below.refl _ _))), Lib.hid (by rw [List.length_set]; exact HLZ.out), Lib.hid ((HOB.out.far (a := ⟨g, j, none⟩) (by have h1 := HG1.out; have h2 := HOB5.out; show g ≠ ob; omega) _).later (belDrew (Below.refl _ _))), Lib.hid ((HP.out.mine ((Apart.refl XG wr).set ⟨g, j, none⟩ _ (HXG.out g rfl))).later (belDrew (Below.refl _ _))), belDrew (belSet hbel ⟨g, j, none⟩ _ (by have h1 := HG1.out; have h2 := HOB5.out; have h3 := HOG.out; show w.heap.size ≤ g; omega))⟩
            case measure => simp [intOf] <;> omega
          · obtain rfl : j = o.Z.length := by omega
            have hdj : decide ((o.Z.length : Int) < (o.Z.length : Int)) = false := decide_eq_false (by omega)
            go_wp2
            go_roundw
            case rel => exact ⟨k + 1, by omega, by push_cast; rfl, Lib.hid (by rw [HNX.out]; exact HP.out.more (fun b hb => absurd hb List.not_mem_nil)), hbel⟩
            case measure => simp [intOf] <;> omega
      · obtain rfl : k = L.length := by omega
        have hd : decide ((L.length : Int) < (L.length : Int)) = false := decide_eq_false (by omega)
        rw [List.take_length] at HP
        have hsm := dosW_small L sz
        obtain ⟨hm1, hm2, hm3⟩ := hsm
        have hcs := HSC.out
        have HCS := Lib.hid (show (dosW sz L).cap + (dosW sz L).done.length ≤ 100 by rw [hm1]; omega)
        have HGS := Lib.hid (dosW_good L HGZ.out)
        clear hm1 hm2 hm3 hcs
        obtain ⟨s, hs⟩ : ∃ s, dosW sz L = s := ⟨_, rfl⟩
        rw [hs] at HP HCS HGS
        clear hs
        have HSM := Lib.hid (HP.out.dk.small HGS.out.1)
        have CN := Lib.hid (dl_Names w.heap.size M [] s wr HP.out.dk hbel.size (by have := HCS.out; omega) HGS.out.1)
        go_upto_region 19 with (go_at_call 44; (with_reducible refine (CN.out).mono ?_); rintro e w2n ⟨v, rfl, hr_, _, hb_⟩; obtain ⟨va, vc, rfl, _⟩ := rowR_of_own hr_; have HN := Lib.hid (show OwnS w2n wr.heap.size (.slice va s.look.length vc) s.look.length (s.look.map FileM.name) from ⟨by rw [List.length_map], by rw [List.map_map]; exact hr_⟩); have HPN := Lib.hid ((HP.out.more (Y := (Value.slice va s.look.length vc).ownBlock.toList) (fun b hb => .inr (own_type hr_ (Option.mem_toList.1 hb)).1)).later hb_); have HWR := Lib.hid hbel.size; have hbz := belStep hbel hb_; clear hbel; have hbel := hbz; clear hbz hr_ hb_)
        clear CN HP
        obtain ⟨nb, hnb⟩ : ∃ x, wr.heap.size = x := ⟨_, rfl⟩
        rw [hnb] at HN HWR
        clear hnb
        have HSZ := Lib.hid (show ∀ t ∈ s.look.map FileM.name, t.size ≤ maxLen from fun t ht => by obtain ⟨f, hf, rfl⟩ := List.mem_map.1 ht; exact HSM.out f hf)
        obtain ⟨n9, hn9⟩ : ∃ x, s.look.length = x := ⟨_, rfl⟩
        rw [hn9] at HN HPN
        simp only [hn9]
        have hn9b : n9 ≤ 9223372036854775807 := by have := HN.out.1; rcases own_open HN.out.2 with ⟨_, e, _⟩ | ⟨g, c5, C, e, _, _, h3, h4, _⟩; omega; unfold maxLen at h4; omega
        have HNX := Lib.hid (show ∀ b, (Value.slice va n9 vc).ownBlock = some b → b ∈ (Value.slice va n9 vc).ownBlock.toList from fun b hb => Option.mem_toList.2 hb)
        have HBW := Lib.hid hbel
        clear hbel
        generalize s.look.map FileM.name = G0 at *
        go_wp2
        go_loopw [9] (fun iv wz => ∃ (i : Nat) (G : List ByteArray), i ≤ n9 ∧ iv = .int .i64 i ∧ Hid (OwnS wz nb (.slice va n9 vc) n9 G) ∧ Hid (∀ t ∈ G, t.size ≤ maxLen) ∧ Hid (Pool w.heap.size wz (Value.slice va n9 vc).ownBlock.toList [(M, s), (N, s)]) ∧ Below w.heap.size w wz) (fun iv _ => n9 - (intOf iv).toNat)
        case atStart => exact ⟨0, G0, Nat.zero_le _, rfl, HN, HSZ, HPN, HBW.out⟩
        case round =>
          clear HN HPN HBW HSZ
          obtain ⟨i, G, hi, rfl, HN, HSZ, HP, hbel⟩ := hrel
          by_cases hit : i < n9
          · have hd : decide ((i : Int) < (n9 : Int)) = true := decide_eq_true (by omega)
            have hii : (i : Int) < (n9 : Int) := by omega
            have hi0 : (0 : Int) ≤ (i : Int) := by omega
            obtain ⟨g, hga, hg1, hg2, hg3, hg4⟩ := HN.out.open (by omega)
            subst hga
            obtain ⟨t, ht⟩ : ∃ t, G[i]? = some t := ⟨G[i]'(by have := HN.out.1; omega), List.getElem?_eq_getElem _⟩
            have x0 := HN.out.cellAt ht
            have HTS := Lib.hid (HSZ.out t (List.mem_of_getElem? ht))
            clear ht
            have HGW := Lib.hid hg1
            have HGL := Lib.hid hg2
            clear hg1 hg2
            have CR := Lib.hid (dl_Read w.heap.size M _ s wr HP.out.dk hbel.size (by have := HCS.out; omega) t HTS.out)
            obtain ⟨Z, hZ⟩ : ∃ Z, (getF s.look t).getD [] = Z := ⟨_, rfl⟩
            rw [hZ] at CR
            clear hZ
            have HWZ := Lib.hid (show w.heap.size ≤ wr.heap.size from hbel.size)
            go_upto_region 23 with (go_at_call 45; (with_reducible refine (CR.out).mono ?_); rintro e w5 ⟨pa, pc, rfl, _, hl_, ho_, _, hb_⟩; have HO := Lib.hid ho_; have HLZ := Lib.hid hl_; have HP5 := Lib.hid ((HP.out.more (Y := (Value.slice (some ⟨g, 0, none⟩) n9 vc).ownBlock.toList ++ (Value.slice pa Z.length pc).ownBlock.toList) (fun b hb => (List.mem_append.1 hb).imp id (fun q => (own_type ho_ (Option.mem_toList.1 q)).1))).later hb_); have HN5 := Lib.hid (HN.out.later hb_); have hbz := belStep hbel hb_; clear hbel; have hbel := hbz; clear hbz hl_ ho_ hb_)
            clear CR HP HN x0
            obtain ⟨rb, hrb⟩ : ∃ x, wr.heap.size = x := ⟨_, rfl⟩
            rw [hrb] at HO HWZ HGL
            clear hrb
            have HXP := Lib.hid (show ∀ b, (Value.slice pa Z.length pc).ownBlock = some b → b ∈ (Value.slice (some ⟨g, 0, none⟩) n9 vc).ownBlock.toList ++ (Value.slice pa Z.length pc).ownBlock.toList from fun b hb => List.mem_append_right _ (Option.mem_toList.2 hb))
            have hzl : Z.length ≤ 9223372036854775807 := by have := HLZ.out; omega
            obtain ⟨zn, hzn⟩ : ∃ x, Z.length = x := ⟨_, rfl⟩
            have HZN := Lib.hid hzn
            rw [hzn] at HO HP5 HXP hzl
            simp only [hzn]
            clear hzn
            have HXN := Lib.hid (show ∀ b ∈ (Value.slice (some ⟨g, 0, none⟩) n9 vc).ownBlock.toList, b ∈ (Value.slice (some ⟨g, 0, none⟩) n9 vc).ownBlock.toList ++ (Value.slice pa zn pc).ownBlock.toList from fun b hb => List.mem_append_left _ hb)
            obtain ⟨XB, hXB⟩ : ∃ x, (Value.slice (some ⟨g, 0, none⟩) n9 vc).ownBlock.toList ++ (Value.slice pa zn pc).ownBlock.toList = x := ⟨_, rfl⟩
            rw [hXB] at HP5 HXP HXN
            clear hXB
            have HB5 := Lib.hid hbel
            clear hbel
            go_wp2
            go_loopw [12] (fun jv wy => ∃ (j : Nat) (Zj : List Int), j ≤ zn ∧ jv = .int .i64 j ∧ Hid (OwnI wy rb 5 .u8 (.slice pa zn pc) Zj) ∧ Hid (Zj.length = zn) ∧ Hid (OwnS wy nb (.slice (some ⟨g, 0, none⟩) n9 vc) n9 G) ∧ Hid (Pool w.heap.size wy XB [(M, s), (N, s)]) ∧ Below w.heap.size w wy) (fun jv _ => zn - (intOf jv).toNat)
            case atStart => exact ⟨0, Z, Nat.zero_le _, rfl, HO, HZN, HN5, HP5, HB5.out⟩
            case round =>
              clear HO HN5 HP5 HB5
              obtain ⟨j, Zj, hj, rfl, HO, HLJ, HN, HP, hbel⟩ := hrel
              by_cases hjt : j < zn
              · have hd : decide ((j : Int) < (zn : Int)) = true := decide_eq_true (by omega)
                have hji : (j : Int) < (zn : Int) := by omega
                have hj0 : (0 : Int) ≤ (j : Int) := by omega
                obtain ⟨h, hha, hh1, hh2, hh3, hh4⟩ := HO.out.open HLJ.out (by omega)
                subst hha
                have x0 := HO.out.cellAt HLJ.out.symm hjt
                have f0 := HO.out.frozenAt HLJ.out.symm j
                obtain ⟨c9, hc9⟩ : ∃ c9, el Zj j = c9 := ⟨_, rfl⟩
                rw [hc9] at x0
                clear hc9
                have HH1 := Lib.hid hh1
                clear hh1 hh2
                have hHG : g ≠ h := by have h1 := HH1.out; have h2 := HGL.out; omega
                go_wp2
                go_roundw
                case rel => exact ⟨j + 1, Zj.set j (bits .xor .u8 c9 255), by omega, by push_cast; rfl, Lib.hid (HO.out.set HLJ.out.symm j _), Lib.hid (by rw [List.length_set]; exact HLJ.out), Lib.hid ⟨HN.out.1, own_same HN.out.2 (fun b e => by cases e; exact heap_set_ne _ _ _ _ hHG)⟩, Lib.hid (HP.out.mine ((Apart.refl XB wr).set ⟨h, j, none⟩ _ (HXP.out h rfl))), belSet hbel ⟨h, j, none⟩ _ (by have h1 := HH1.out; have h2 := HWZ.out; show w.heap.size ≤ h; omega)⟩
                case measure => simp [intOf] <;> omega
              · obtain rfl : j = zn := by omega
                have hdj : decide ((j : Int) < (j : Int)) = false := decide_eq_false (by omega)
                have f1 := HN.out.frozenAt i
                obtain ⟨t9, ht9⟩ : ∃ t, G[i]? = some t := ⟨G[i]'(by have := HN.out.1; omega), List.getElem?_eq_getElem _⟩
                have x1 := HN.out.cellAt ht9
                clear ht9
                go_wp2
                go_roundw
                case rel => exact ⟨i + 1, G.set i ⟨#[63]⟩, by omega, by push_cast; rfl, Lib.hid (HN.out.set i _), Lib.hid (fun t ht => (List.mem_or_eq_of_mem_set ht).elim (HSZ.out t) (fun e => by subst e; decide +kernel)), Lib.hid ((HP.out.more (fun b hb => .inl (HXN.out b hb))).mine ((Apart.refl _ wr).set ⟨g, i, none⟩ _ (HNX.out g rfl))), belSet hbel ⟨g, i, none⟩ _ (by have h1 := HGW.out; have h2 := HWR.out; show w.heap.size ≤ g; omega)⟩
                case measure => simp [intOf] <;> omega
          · obtain rfl : i = n9 := by omega
            have hdi : decide ((i : Int) < (i : Int)) = false := decide_eq_false (by omega)
            have CA := Lib.hid (dl_alike w.heap.size M N _ _ s s wr HP.out.dk (HP.out.mem (List.mem_cons_of_mem _ List.mem_cons_self)) hbel.size (by have := HCS.out; omega) (by have := HCS.out; omega) HGS.out.1 HGS.out.1 rfl)
            go_wp2_with (go_at_call 43; (with_reducible refine (CA.out).mono ?_); rintro e w8 ⟨rfl, hb8⟩)
            go_ret
            exact ⟨rfl, belStep hbel hb8⟩

set_option maxRecDepth 100000 in
theorem lifted (os : Os) (started : os.Started) (H : Type) (enc : TypeId × Value → H) :
    ReturnsInHanded {} Try.checked os 8 .any (Rows.diskKeepsSpec.pre6 enc Try.prog Try.f8 Rows.diskKeepsRow.domain false) (Rows.diskKeepsSpec.post enc Try.prog Try.f8 false true false false) := by
  refine returnsInHanded_of_change (C := Try.checked) own started (by kernel_rfl) Try.func8
    (ChangeSpec.witness6 (enc := enc) (C := Try.checked) false ⟨#[], #[.slice none 0 0], []⟩ 8 (by kernel_rfl) (by kernel_rfl) (by kernel_rfl) (by kernel_rfl)) ?_
  intro W base args ds gs before hval0 hW hcnd _
  have hval : ∀ (j : Nat) t v, Try.f8.params[j]? = some t → args[j]? = some v → Value.okWide Try.prog W .any base t v := hval0
  have hW' := hW
  obtain ⟨p, q, hA0, hV, rfl, hfz, hnd⟩ := hW
  have hA : DataW.TrodAll enc Try.prog W 0 (fun _ => true) true Try.f8.params.toList args.toList ds p := hA0
  rw [Try.params8] at hA hval
  obtain ⟨v0, vs0, d0, ds0, p0, q0, hargs, rfl, rfl, h0, r0⟩ := trodAll_cons hA
  obtain ⟨rfl, rfl, rfl⟩ := trodAll_nil r0
  obtain rfl : args = #[v0] := by cases args; simp_all
  obtain ⟨rfl, rfl⟩ := trodVars_none hV
  have k0 := h0
  have lt0 : ∀ x ∈ p0, x.block < W.heap.size := by obtain ⟨m, hm⟩ := k0; exact DataW.trod_lt m _ _ _ hm
  have o0 : Value.okWide Try.prog W .any base 67 v0 := hval 0 67 v0 rfl rfl
  obtain ⟨xa0, xn0, xc0, xl0, rfl, fl0, fo0, fr0⟩ := open_ops o0 h0
  clear hA0 hval0
  refine (walk xa0 xn0 xc0 xl0 W fl0 fo0 fr0).mono fun e W' ⟨he, bel⟩ => ?_
  subst he
  exact ⟨_, rfl, _, _, _, [], _, [], hW', trodAll_mk1 (shut_bool Try.underlying4 _), (trodAll_cons_mk (Below.trod laidOut (by kernel_rfl) (of_decide_eq_true (by kernel_rfl)) k0 bel lt0) trodAll_mk0), rfl, bel.frame _, fun h => by cases h⟩

theorem over : Rows.diskKeepsRow.holds Try.pinned (OpenSpec.ofChange Rows.diskKeepsSpec) :=
  OpenClaim.holds_of_wide 8 Try.f8 rfl rfl rfl rfl rfl rfl rfl ⟨rfl, rfl, rfl, rfl, rfl⟩ rfl rfl rfl rfl rfl (by kernel_rfl) Try.func8 (by kernel_rfl)
    (of_decide_eq_true (by kernel_rfl)) (by unfold Func.isWrapper; first | (rw [if_pos (by decide +kernel)]; kernel_rfl) | (rw [if_neg (by decide +kernel)]; exact ⟨rfl, rfl⟩))
    (fun os started H enc _ => lifted os started H enc)

/-- The statement. -/
theorem proved : Rows.DiskKeepsSaid := over
#print axioms proved

end Go.Proofs.Ytcnjcldfbidkmaa.diskKeeps
