
/- Stage 22: sweep.Collect, bilgeref22.Collect: contracts. -/
import Derived.Test.YtampkolkbjmmkaaImRf3
import Derived.WalkMore
namespace Go.Proofs.Ytampkolkbjmmkaa
open Go.RowKit Go.Sort
set_option linter.unusedVariables false
set_option linter.unusedSimpArgs false
theorem info_strI : (Try.prog.info? 9).map (fun i => (i.zero, i.size, i.bytes)) = some (some (.string ⟨#[]⟩), 1, 16) := by kernel_rfl
theorem str_one (s : ByteArray) : ∀ u ∈ [Value.string s], u.oneCell' = true := by intro u hu; simp at hu; subst hu; rfl
theorem bool_cell {w : World} {a : Option Addr} {n cap : Nat} {G : List Bool} (h : Row w a n cap 1 (G.map Value.bool)) {k : Nat} {s : Bool} (hs : G[k]? = some s) : ∃ b off, a = some ⟨b, off, none⟩ ∧ w.cell? ⟨b, off + k, none⟩ = some (.bool s) := by
  obtain ⟨_, _, _, _, h5⟩ := h
  have hk : (G.map Value.bool)[k]? = some (.bool s) := by rw [List.getElem?_map, hs]; rfl
  rcases h5 with h5 | ⟨b, off, e, hc⟩
  · rw [h5] at hk; cases hk
  · refine ⟨b, off, e, ?_⟩
    rw [hc k (by rcases Nat.lt_or_ge k (G.map Value.bool).length with q | q; exact q; rw [List.getElem?_eq_none q] at hk; cases hk), hk]
structure CollV where
  went : List ByteArray
  free : Int
  asked : Nat
def goesB (V : List Bool) (i : Nat) : Bool := (V[i]?).getD true
/-- What is still to come: the images l, from number i on; g went, f is free. -/
def collR (need : Int) (V : List Bool) : List ImgV → Nat → List ByteArray → Int → CollV
  | [], i, g, f => ⟨g, f, i⟩
  | x :: l, i, g, f => if need ≤ f then ⟨g, f, i⟩ else if goesB V i then collR need V l (i + 1) (g ++ [x.name]) (satAdd f x.size) else collR need V l (i + 1) g f
def collF (need : Int) (V : List Bool) (O : List ImgV) : CollV := collR need V O 0 [] 0
theorem coll_stop {need f : Int} {V : List Bool} {x : ImgV} {l : List ImgV} {i : Nat} {g : List ByteArray} (h : need ≤ f) : collR need V (x :: l) i g f = ⟨g, f, i⟩ := by unfold collR; rw [if_pos h]
theorem coll_goes {need f : Int} {V : List Bool} {x : ImgV} {l : List ImgV} {i : Nat} {g : List ByteArray} (h : ¬ need ≤ f) (hg : goesB V i = true) : collR need V (x :: l) i g f = collR need V l (i + 1) (g ++ [x.name]) (satAdd f x.size) := by
  conv => lhs; unfold collR
  rw [if_neg h, if_pos hg]
theorem coll_stays {need f : Int} {V : List Bool} {x : ImgV} {l : List ImgV} {i : Nat} {g : List ByteArray} (h : ¬ need ≤ f) (hg : goesB V i = false) : collR need V (x :: l) i g f = collR need V l (i + 1) g f := by
  conv => lhs; unfold collR
  rw [if_neg h, if_neg (by rw [hg]; simp)]
theorem goes_end {V : List Bool} {i : Nat} (h : V.length ≤ i) : goesB V i = true := by unfold goesB; rw [List.getElem?_eq_none h]; rfl
theorem goes_at {V : List Bool} {i : Nat} {b : Bool} (h : V[i]? = some b) : goesB V i = b := by unfold goesB; rw [h]; rfl
theorem order_ok {L : List ImgV} (h : ∀ x ∈ L, x.ok) (U : List ByteArray) : ∀ x ∈ orderI L U, x.ok := fun x hx => h x (List.mem_filter.1 (sortBy_mem.1 hx)).1
theorem collR_len {need : Int} {V : List Bool} : ∀ (l : List ImgV) (i : Nat) (g : List ByteArray) (f : Int), (collR need V l i g f).asked ≤ i + l.length ∧ (collR need V l i g f).went.length + i ≤ g.length + (collR need V l i g f).asked := by
  intro l
  induction l with
  | nil => intro i g f; exact ⟨by simp [collR], by simp [collR]⟩
  | cons x l ih =>
    intro i g f
    unfold collR
    split
    · exact ⟨by simp, by simp⟩
    · split
      · have h := ih (i + 1) (g ++ [x.name]) (satAdd f x.size)
        rw [List.length_append] at h
        simp only [List.length_cons, List.length_nil] at h ⊢
        omega
      · have h := ih (i + 1) g f
        simp only [List.length_cons]
        omega
set_option maxRecDepth 100000 in
set_option maxHeartbeats 16000000 in
theorem sw_Collect (a : Option Addr) (len cap : Nat) (L : List ImgV) (b : Option Addr) (ul uc : Nat) (U : List ByteArray) (need : Int) (d : Option Addr) (wl wc : Nat) (V : List Bool) (w : World) (hl : L.length = len) (hR : Row w a len cap 3 (L.flatMap ImgV.cells)) (hri : Rises L) (hu : U.length = ul) (hRU : Row w b ul uc 1 (U.map Value.string)) (hv : V.length = wl) (hRV : Row w d wl wc 1 (V.map Value.bool)) (hok : ∀ x ∈ L, x.ok) (hn : len ≤ 100000) :
    Calls Try.prog 33 #[.slice a len cap, .slice b ul uc, .int .i64 need, .slice d wl wc] w fun e w' => ∃ v, e = .returned (.tuple #[v, .int .i64 (collF need V (orderI L U)).free, .int .i64 (collF need V (orderI L U)).asked]) ∧ OwnR w' w.heap.size 9 1 v (collF need V (orderI L U)).went.length ((collF need V (orderI L U)).went.map Value.string) ∧ Below w.heap.size w w' := by
  have hw : Below w.heap.size w w := Below.refl _ _
  have hbel := hw
  have hbd_a : len ≤ cap ∧ cap ≤ 9223372036854775807 := by obtain ⟨_, h1, h2, _⟩ := hR; unfold maxLen at h2; exact ⟨h1, h2⟩
  obtain ⟨hbd1_a, hbd2_a⟩ := hbd_a
  have hbd_u : ul ≤ uc ∧ uc ≤ 9223372036854775807 := by obtain ⟨_, h1, h2, _⟩ := hRU; unfold maxLen at h2; exact ⟨h1, h2⟩
  obtain ⟨hbd1_u, hbd2_u⟩ := hbd_u
  have hbd_v : wl ≤ wc ∧ wc ≤ 9223372036854775807 := by obtain ⟨_, h1, h2, _⟩ := hRV; unfold maxLen at h2; exact ⟨h1, h2⟩
  obtain ⟨hbd1_v, hbd2_v⟩ := hbd_v
  subst hv
  have HRV := Lib.hid hRV
  have hol := order_le L U
  have HOK := Lib.hid (order_ok hok U)
  have CO := Lib.hid (im_Order a len cap L b ul uc U w hl hR hri hu hRU hn)
  obtain ⟨O, hO⟩ : ∃ O, orderI L U = O := ⟨_, rfl⟩
  obtain ⟨R, hRr⟩ : ∃ R, collF need V O = R := ⟨_, rfl⟩
  rw [hO] at CO HOK hol ⊢
  rw [hRr]
  have HRR := Lib.hid (show collR need V O 0 [] 0 = R from hRr)
  have hol2 : O.length ≤ 100000 := by omega
  clear hR hRU hRV hri hok hO hRr hol hbel hw
  go_enter Try.func33, Try.ntmps33
  go_wp2
  go_step3
  go_wp2
  go_step3
  go_wp2_with (go_at_call 65; (with_reducible refine CO.out.mono ?_); rintro e w3 ⟨v3, rfl, ho3, hb3⟩; obtain ⟨oa, oc, rfl, hro⟩ := rowR_of_own ho3; have HRO := Lib.hid hro; clear hro ho3)
  clear CO
  go_loopw [11, 12, 13, 20] (fun v fv av iv wr => ∃ (k : Nat) (g : List ByteArray) (f : Int), k ≤ O.length ∧ iv = .int .i64 k ∧ av = .int .i64 k ∧ fv = .int .i64 f ∧ InI f ∧ g.length ≤ k ∧ Hid (collR need V (O.drop k) k g f = R) ∧ OwnR wr w3.heap.size 9 1 v g.length (g.map Value.string) ∧ Below w3.heap.size w3 wr) (fun _ _ _ iv _ => O.length - (intOf iv).toNat)
  case atStart => exact ⟨0, [], 0, Nat.zero_le _, rfl, rfl, rfl, by unfold InI; omega, Nat.le_refl _, HRR, OwnR.nil _ _ _ _, Below.refl _ _⟩
  case round =>
    clear HRR
    obtain ⟨k, g, f, hk, rfl, rfl, rfl, hf, hg, HC, hO9, hbr⟩ := hrel
    by_cases hlt : k < O.length
    · have hd : decide ((k : Int) < (O.length : Int)) = true := decide_eq_true (by omega)
      have hki : (k : Int) < (O.length : Int) := by omega
      have hk0 : (0 : Int) ≤ (k : Int) := by omega
      obtain ⟨x, hx⟩ : ∃ x, O[k]? = some x := ⟨O[k], List.getElem?_eq_getElem hlt⟩
      obtain ⟨bc, oc, ec, _, hcc⟩ := (HRO.out.later hbr).elem ImgV.cells_len (by omega) hx
      subst ec
      have c0 := keep (hcc 0 _ rfl)
      have c1 := keep (hcc 1 _ rfl)
      have c2 := keep (hcc 2 _ rfl)
      rw [Nat.add_zero] at c0
      have hdr : O.drop k = x :: O.drop (k + 1) := by rw [List.drop_eq_getElem_cons hlt, (List.getElem?_eq_some_iff.1 hx).2]
      have HC2 := Lib.hid (show collR need V (x :: O.drop (k + 1)) k g f = R by rw [← hdr]; exact HC.out)
      have hxs := (HOK.out x (List.mem_of_getElem? hx)).2.1
      clear hx hcc hdr HC
      have hbel : Below wr.heap.size wr wr := Below.refl _ _
      go_upto_region 6 with fail
      clear hbel
      have k1 : Below wr.heap.size wr (wr.alloc (.cells #[.string x.name, .int .i64 x.size, .int .i64 x.last] 46)) := belAlloc (Below.refl _ _) _
      have HX := Lib.hid (show Blk (wr.alloc (.cells #[.string x.name, .int .i64 x.size, .int .i64 x.last] 46)) wr.heap.size [.string x.name, .int .i64 x.size, .int .i64 x.last] 46 from Blk.new wr [.string x.name, .int .i64 x.size, .int .i64 x.last] 46)
      have HO5 := Lib.hid (OwnR.alloc hO9 (.cells #[.string x.name, .int .i64 x.size, .int .i64 x.last] 46))
      have hnx := own_ne_new hO9 (Nat.le_refl _)
      have HB5 := Lib.hid (belStep hbr k1)
      have HV5 := Lib.hid (HRV.out.later (belStep hb3 HB5.out))
      clear hO9 hbr k1 c0 c1 c2
      generalize wr.alloc (.cells #[.string x.name, .int .i64 x.size, .int .i64 x.last] 46) = W5 at *
      have x0 := HX.out.cell (j := 0) rfl
      have x1 := HX.out.cell (j := 1) rfl
      have x2 := HX.out.cell (j := 2) rfl
      by_cases hnf : need ≤ f
      · have HRES := Lib.hid (show R = ⟨g, f, k⟩ from HC2.out.symm.trans (coll_stop hnf))
        have dn : decide (need ≤ f) = true := decide_eq_true hnf
        have dn2 : decide (f < need) = false := decide_eq_false (by omega)
        have dn3 : ¬ f < need := by omega
        go_wp2
        go_ret3
        exact ⟨_, by rw [HRES.out]; rfl, by rw [HRES.out]; exact OwnR.mono HO5.out hb3.size, belStep hb3 HB5.out⟩
      · have dn : decide (need ≤ f) = false := decide_eq_false hnf
        have dn2 : decide (f < need) = true := decide_eq_true (by omega)
        have dn3 : f < need := by omega
        have CA := Lib.hid (fun u => sat_Add f x.size u hf hxs)
        by_cases hkl : k < V.length
        · obtain ⟨wb, hwb⟩ : ∃ q, V[k]? = some q := ⟨V[k], List.getElem?_eq_getElem hkl⟩
          obtain ⟨bv, ov, ev, cv⟩ := bool_cell HV5.out hwb
          subst ev
          have hge : decide ((V.length : Int) ≤ (k : Int)) = false := decide_eq_false (by omega)
          have hge2 : ¬ (V.length : Int) ≤ (k : Int) := by omega
          have hkv : (k : Int) < (V.length : Int) := by omega
          cases wb with
          | true =>
            have HGO := Lib.hid (goes_at hwb)
            clear hwb
            have HN := Lib.hid ((coll_goes hnf HGO.out).symm.trans HC2.out)
            have HRX := Lib.hid (row_new W5 [.string x.name] 9 1 1 rfl (by unfold maxLen; omega))
            have HO6 := Lib.hid (OwnR.alloc HO5.out (.cells #[.string x.name] 9))
            go_wp2_with (at_builtin; go_loud (refine wpList_app_row rfl _ _ 23 rfl w3.heap.size 9 _ 1 16 Try.underlying23 info_strI rfl (by decide) _ _ _ rfl HO6.out _ 1 1 [.string x.name] rfl HRX.out (str_one x.name) ?c1 ?c2 ?c3 ?_))
            case c1 => simp only [maxLen]; omega
            case c2 => omega
            case c3 => have := HB5.out.size; simp; omega
            intro v' w6 ho' hb' hg'
            have HO7 := Lib.hid (own_snocM (enc := Value.string) ho')
            have HB6 := Lib.hid ((belAlloc HB5.out (.cells #[.string x.name] 9)).trans hb')
            have HX6 := Lib.hid (Blk.grown (HX.out.later (belAlloc (Below.refl _ _) (.cells #[.string x.name] 9))) hg' hnx)
            clear ho' hb' hg' x0 x1 x2
            have x1 := HX6.out.cell (j := 1) rfl
            go_wp2_with (go_at_call 66; (with_reducible refine (CA.out _).mono ?_); rintro e w' ⟨rfl, rfl⟩)
            go_roundw
            case rel => exact ⟨k + 1, g ++ [x.name], satAdd f x.size, by omega, by push_cast; rfl, by push_cast; rfl, rfl, satAdd_in _ _, by rw [List.length_append]; simp; omega, HN, HO7.out, HB6.out⟩
            case measure => simp [intOf] <;> omega
          | false =>
            have HN := Lib.hid ((coll_stays hnf (goes_at hwb)).symm.trans HC2.out)
            clear hwb
            go_wp2
            go_roundw
            case rel => exact ⟨k + 1, g, f, by omega, by push_cast; rfl, by push_cast; rfl, rfl, hf, by omega, HN, HO5.out, HB5.out⟩
            case measure => simp [intOf] <;> omega
        · have HGO := Lib.hid (goes_end (V := V) (i := k) (by omega))
          have hge : decide ((V.length : Int) ≤ (k : Int)) = true := decide_eq_true (by omega)
          have hge2 : (V.length : Int) ≤ (k : Int) := by omega
          have HN := Lib.hid ((coll_goes hnf HGO.out).symm.trans HC2.out)
          have HRX := Lib.hid (row_new W5 [.string x.name] 9 1 1 rfl (by unfold maxLen; omega))
          have HO6 := Lib.hid (OwnR.alloc HO5.out (.cells #[.string x.name] 9))
          go_wp2_with (at_builtin; go_loud (refine wpList_app_row rfl _ _ 23 rfl w3.heap.size 9 _ 1 16 Try.underlying23 info_strI rfl (by decide) _ _ _ rfl HO6.out _ 1 1 [.string x.name] rfl HRX.out (str_one x.name) ?c1 ?c2 ?c3 ?_))
          case c1 => simp only [maxLen]; omega
          case c2 => omega
          case c3 => have := HB5.out.size; simp; omega
          intro v' w6 ho' hb' hg'
          have HO7 := Lib.hid (own_snocM (enc := Value.string) ho')
          have HB6 := Lib.hid ((belAlloc HB5.out (.cells #[.string x.name] 9)).trans hb')
          have HX6 := Lib.hid (Blk.grown (HX.out.later (belAlloc (Below.refl _ _) (.cells #[.string x.name] 9))) hg' hnx)
          clear ho' hb' hg' x0 x1 x2
          have x1 := HX6.out.cell (j := 1) rfl
          go_wp2_with (go_at_call 66; (with_reducible refine (CA.out _).mono ?_); rintro e w' ⟨rfl, rfl⟩)
          go_roundw
          case rel => exact ⟨k + 1, g ++ [x.name], satAdd f x.size, by omega, by push_cast; rfl, by push_cast; rfl, rfl, satAdd_in _ _, by rw [List.length_append]; simp; omega, HN, HO7.out, HB6.out⟩
          case measure => simp [intOf] <;> omega
    · obtain rfl : k = O.length := by omega
      have hd : decide ((O.length : Int) < (O.length : Int)) = false := decide_eq_false (by omega)
      have HRES := Lib.hid (show R = ⟨g, f, O.length⟩ by have h := HC.out; rw [List.drop_length] at h; exact h.symm)
      go_wp2
      (simp only [Exit.noGoto_ret]; first | go_ret3 | (go_wp2; go_ret3) | go_back)
      exact ⟨_, by rw [HRES.out]; rfl, by rw [HRES.out]; exact OwnR.mono hO9 hb3.size, belStep hb3 hbr⟩
set_option maxRecDepth 100000 in
set_option maxHeartbeats 16000000 in
theorem swref_Collect (a : Option Addr) (len cap : Nat) (L : List ImgV) (b : Option Addr) (ul uc : Nat) (U : List ByteArray) (need : Int) (d : Option Addr) (wl wc : Nat) (V : List Bool) (w : World) (hl : L.length = len) (hR : Row w a len cap 3 (L.flatMap ImgV.cells)) (hri : Rises L) (hu : U.length = ul) (hRU : Row w b ul uc 1 (U.map Value.string)) (hv : V.length = wl) (hRV : Row w d wl wc 1 (V.map Value.bool)) (hok : ∀ x ∈ L, x.ok) (hn : len ≤ 100000) :
    Calls Try.prog 34 #[.slice a len cap, .slice b ul uc, .int .i64 need, .slice d wl wc] w fun e w' => ∃ v, e = .returned (.tuple #[v, .int .i64 (collF need V (orderI L U)).free, .int .i64 (collF need V (orderI L U)).asked]) ∧ OwnR w' w.heap.size 9 1 v (collF need V (orderI L U)).went.length ((collF need V (orderI L U)).went.map Value.string) ∧ Below w.heap.size w w' := by
  have hw : Below w.heap.size w w := Below.refl _ _
  have hbel := hw
  have hbd_a : len ≤ cap ∧ cap ≤ 9223372036854775807 := by obtain ⟨_, h1, h2, _⟩ := hR; unfold maxLen at h2; exact ⟨h1, h2⟩
  obtain ⟨hbd1_a, hbd2_a⟩ := hbd_a
  have hbd_u : ul ≤ uc ∧ uc ≤ 9223372036854775807 := by obtain ⟨_, h1, h2, _⟩ := hRU; unfold maxLen at h2; exact ⟨h1, h2⟩
  obtain ⟨hbd1_u, hbd2_u⟩ := hbd_u
  have hbd_v : wl ≤ wc ∧ wc ≤ 9223372036854775807 := by obtain ⟨_, h1, h2, _⟩ := hRV; unfold maxLen at h2; exact ⟨h1, h2⟩
  obtain ⟨hbd1_v, hbd2_v⟩ := hbd_v
  subst hv
  have HRV := Lib.hid hRV
  have hol := order_le L U
  have HOK := Lib.hid (order_ok hok U)
  have CO := Lib.hid (iref_Order a len cap L b ul uc U w hl hR hri hu hRU hn)
  obtain ⟨O, hO⟩ : ∃ O, orderI L U = O := ⟨_, rfl⟩
  obtain ⟨R, hRr⟩ : ∃ R, collF need V O = R := ⟨_, rfl⟩
  rw [hO] at CO HOK hol ⊢
  rw [hRr]
  have HRR := Lib.hid (show collR need V O 0 [] 0 = R from hRr)
  have hol2 : O.length ≤ 100000 := by omega
  clear hR hRU hRV hri hok hO hRr hol hbel hw
  go_enter Try.func34, Try.ntmps34
  go_wp2_with (go_at_call 67; (with_reducible refine CO.out.mono ?_); rintro e w3 ⟨v3, rfl, ho3, hb3⟩; obtain ⟨oa, oc, rfl, hro⟩ := rowR_of_own ho3; have HRO := Lib.hid hro; clear hro ho3)
  clear CO
  go_loopw [12, 13, 14] (fun v fv iv wr => ∃ (k : Nat) (g : List ByteArray) (f : Int), k ≤ O.length ∧ iv = .int .i64 k ∧ fv = .int .i64 f ∧ InI f ∧ g.length ≤ k ∧ Hid (collR need V (O.drop k) k g f = R) ∧ OwnR wr w3.heap.size 9 1 v g.length (g.map Value.string) ∧ Below w3.heap.size w3 wr) (fun _ _ iv _ => O.length - (intOf iv).toNat)
  case atStart => exact ⟨0, [], 0, Nat.zero_le _, rfl, rfl, by unfold InI; omega, Nat.le_refl _, HRR, OwnR.nil _ _ _ _, Below.refl _ _⟩
  case round =>
    clear HRR
    obtain ⟨k, g, f, hk, rfl, rfl, hf, hg, HC, hO9, hbr⟩ := hrel
    by_cases hlt : k < O.length
    · have hd : decide ((k : Int) < (O.length : Int)) = true := decide_eq_true (by omega)
      have hki : (k : Int) < (O.length : Int) := by omega
      have hk0 : (0 : Int) ≤ (k : Int) := by omega
      obtain ⟨x, hx⟩ : ∃ x, O[k]? = some x := ⟨O[k], List.getElem?_eq_getElem hlt⟩
      obtain ⟨bc, oc, ec, _, hcc⟩ := (HRO.out).elem ImgV.cells_len (by omega) hx
      subst ec
      have c0 := keep (hcc 0 _ rfl)
      have c1 := keep (hcc 1 _ rfl)
      have c2 := keep (hcc 2 _ rfl)
      rw [Nat.add_zero] at c0
      have hdr : O.drop k = x :: O.drop (k + 1) := by rw [List.drop_eq_getElem_cons hlt, (List.getElem?_eq_some_iff.1 hx).2]
      have HC2 := Lib.hid (show collR need V (x :: O.drop (k + 1)) k g f = R by rw [← hdr]; exact HC.out)
      have hxs := (HOK.out x (List.mem_of_getElem? hx)).2.1
      clear hx hcc hdr HC
      have HV5 := Lib.hid (HRV.out.later (belStep hb3 hbr))
      have HO5 := Lib.hid hO9
      have HB5 := Lib.hid hbr
      have hbel := hbr
      clear hO9 hbr
      by_cases hnf : need ≤ f
      · have HRES := Lib.hid (show R = ⟨g, f, k⟩ from HC2.out.symm.trans (coll_stop hnf))
        have dn : decide (need ≤ f) = true := decide_eq_true hnf
        have dn2 : decide (f < need) = false := decide_eq_false (by omega)
        have dn3 : ¬ f < need := by omega
        go_wp2
        go_ret3
        exact ⟨_, by rw [HRES.out]; rfl, by rw [HRES.out]; exact OwnR.mono HO5.out hb3.size, belStep hb3 HB5.out⟩
      · have dn : decide (need ≤ f) = false := decide_eq_false hnf
        have dn2 : decide (f < need) = true := decide_eq_true (by omega)
        have dn3 : f < need := by omega
        have CA := Lib.hid (fun u => ref_Add f x.size u hf hxs)
        by_cases hkl : k < V.length
        · obtain ⟨wb, hwb⟩ : ∃ q, V[k]? = some q := ⟨V[k], List.getElem?_eq_getElem hkl⟩
          obtain ⟨bv, ov, ev, cv⟩ := bool_cell HV5.out hwb
          subst ev
          have hge : decide ((V.length : Int) ≤ (k : Int)) = false := decide_eq_false (by omega)
          have hge2 : ¬ (V.length : Int) ≤ (k : Int) := by omega
          have hkv : (k : Int) < (V.length : Int) := by omega
          cases wb with
          | true =>
            have HGO := Lib.hid (goes_at hwb)
            clear hwb
            have HN := Lib.hid ((coll_goes hnf HGO.out).symm.trans HC2.out)
            have HRX := Lib.hid (row_new wr [.string x.name] 9 1 1 rfl (by unfold maxLen; omega))
            have HO6 := Lib.hid (OwnR.alloc HO5.out (.cells #[.string x.name] 9))
            go_wp2_with (at_builtin; go_loud (refine wpList_app_row rfl _ _ 23 rfl w3.heap.size 9 _ 1 16 Try.underlying23 info_strI rfl (by decide) _ _ _ rfl HO6.out _ 1 1 [.string x.name] rfl HRX.out (str_one x.name) ?c1 ?c2 ?c3 ?_))
            case c1 => simp only [maxLen]; omega
            case c2 => omega
            case c3 => have := HB5.out.size; simp; omega
            intro v' w6 ho' hb' hg'
            have HO7 := Lib.hid (own_snocM (enc := Value.string) ho')
            have HB6 := Lib.hid ((belAlloc HB5.out (.cells #[.string x.name] 9)).trans hb')
            clear ho' hb' hg'
            clear hbel
            have hbel := HB6.out
            go_wp2_with (go_at_call 68; (with_reducible refine (CA.out _).mono ?_); rintro e w' ⟨rfl, rfl⟩)
            go_roundw
            case rel => exact ⟨k + 1, g ++ [x.name], satAdd f x.size, by omega, by push_cast; rfl, rfl, satAdd_in _ _, by rw [List.length_append]; simp; omega, HN, HO7.out, HB6.out⟩
            case measure => simp [intOf] <;> omega
          | false =>
            have HN := Lib.hid ((coll_stays hnf (goes_at hwb)).symm.trans HC2.out)
            clear hwb
            go_wp2
            go_roundw
            case rel => exact ⟨k + 1, g, f, by omega, by push_cast; rfl, rfl, hf, by omega, HN, HO5.out, HB5.out⟩
            case measure => simp [intOf] <;> omega
        · have HGO := Lib.hid (goes_end (V := V) (i := k) (by omega))
          have hge : decide ((V.length : Int) ≤ (k : Int)) = true := decide_eq_true (by omega)
          have hge2 : (V.length : Int) ≤ (k : Int) := by omega
          have HN := Lib.hid ((coll_goes hnf HGO.out).symm.trans HC2.out)
          have HRX := Lib.hid (row_new wr [.string x.name] 9 1 1 rfl (by unfold maxLen; omega))
          have HO6 := Lib.hid (OwnR.alloc HO5.out (.cells #[.string x.name] 9))
          go_wp2_with (at_builtin; go_loud (refine wpList_app_row rfl _ _ 23 rfl w3.heap.size 9 _ 1 16 Try.underlying23 info_strI rfl (by decide) _ _ _ rfl HO6.out _ 1 1 [.string x.name] rfl HRX.out (str_one x.name) ?c1 ?c2 ?c3 ?_))
          case c1 => simp only [maxLen]; omega
          case c2 => omega
          case c3 => have := HB5.out.size; simp; omega
          intro v' w6 ho' hb' hg'
          have HO7 := Lib.hid (own_snocM (enc := Value.string) ho')
          have HB6 := Lib.hid ((belAlloc HB5.out (.cells #[.string x.name] 9)).trans hb')
          clear ho' hb' hg'
          clear hbel
          have hbel := HB6.out
          go_wp2_with (go_at_call 68; (with_reducible refine (CA.out _).mono ?_); rintro e w' ⟨rfl, rfl⟩)
          go_roundw
          case rel => exact ⟨k + 1, g ++ [x.name], satAdd f x.size, by omega, by push_cast; rfl, rfl, satAdd_in _ _, by rw [List.length_append]; simp; omega, HN, HO7.out, HB6.out⟩
          case measure => simp [intOf] <;> omega
    · obtain rfl : k = O.length := by omega
      have hd : decide ((O.length : Int) < (O.length : Int)) = false := decide_eq_false (by omega)
      have HRES := Lib.hid (show R = ⟨g, f, O.length⟩ by have h := HC.out; rw [List.drop_length] at h; exact h.symm)
      go_wp2
      go_ret3
      exact ⟨_, by rw [HRES.out]; rfl, by rw [HRES.out]; exact OwnR.mono hO9 hb3.size, belStep hb3 hbr⟩
end Go.Proofs.Ytampkolkbjmmkaa
