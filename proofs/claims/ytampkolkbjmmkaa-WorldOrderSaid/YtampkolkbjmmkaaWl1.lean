
/- Stage 16: the runtime of a law; its contracts. -/
import Derived.Test.YtampkolkbjmmkaaWl0
namespace Go.Proofs.Ytampkolkbjmmkaa
open Go.RowKit Go.Sort
set_option linter.unusedVariables false
set_option linter.unusedSimpArgs false
theorem eq_box (s t s2 t2 : Int) (w : World) : (Op.equalIn 10000 33 (.agg #[.int .i64 s, .int .i64 t]) (.agg #[.int .i64 s2, .int .i64 t2])).run Try.prog w = .ok (s == s2 && t == t2) w := by
  have hs : Try.prog.fieldsOf 33 = #[{ name := "State", type := 3, offset := 0, embedded := false, tag := "", pkgPath := "", byteOffset := 0 }, { name := "Tries", type := 3, offset := 1, embedded := false, tag := "", pkgPath := "", byteOffset := 8 }] := by kernel_rfl
  rw [run_equalIn_struct _ _ _ _ _ (by kernel_rfl) (by kernel_rfl), hs]
  by_cases h1 : s = s2 <;> by_cases h2 : t = t2 <;> simp [go_sem, h1, h2]
theorem WAt.same {u v : World} {B M : Nat} {F : List Nat} {m : WorldV} (h : WAt u B M F m) (hs : ∀ b ∈ F, v.heap[b]? = u.heap[b]?) : WAt v B M F m := by
  obtain ⟨q, b, i, rfl, h⟩ := h
  refine ⟨q, b, i, rfl, h.base, ?_, ?_, ?_, ?_⟩
  · have hb := h.blk
    unfold Blk at *
    rw [hs M (foot_mem.2 (.inl rfl))]; exact hb
  · exact h.wait.same (fun g e => hs g (foot_mem.2 (.inr (.inl e))))
  · exact own_same h.cont (fun g e => hs g (foot_mem.2 (.inr (.inr (.inl e)))))
  · exact own_same h.imgs (fun g e => hs g (foot_mem.2 (.inr (.inr (.inr e)))))
/-- The runtime of a law: none of what it has was there before, nor is among the law's own blocks. -/
def WL (w u : World) (M : Nat) (X : List Nat) (m : WorldV) : Prop := ∃ F, WAt u M M F m ∧ Below w.heap.size w u ∧ w.heap.size ≤ M ∧ ∀ x ∈ X, w.heap.size ≤ x ∧ x ∉ F ∧ x < u.heap.size
/-- The law's own blocks are as they were. -/
def KX (X : List Nat) (u v : World) : Prop := ∀ x ∈ X, x < u.heap.size ∧ v.heap[x]? = u.heap[x]?
theorem KX.nil (u v : World) : KX [] u v := fun x hx => by cases hx
theorem WL.below {w u : World} {M : Nat} {X : List Nat} {m : WorldV} (h : WL w u M X m) : Below w.heap.size w u := by obtain ⟨F, _, h, _⟩ := h; exact h
theorem wl_step {w u v : World} {M : Nat} {F X : List Nat} {m k : WorldV} (h1 : WAt u M M F m) (h2 : Below w.heap.size w u) (h3 : w.heap.size ≤ M) (h4 : ∀ x ∈ X, w.heap.size ≤ x ∧ x ∉ F ∧ x < u.heap.size) (hT : WTo u v M M F k) : WL w v M X k ∧ KX X u v ∧ u.heap.size ≤ v.heap.size := by
  have hbl := hT.below h1 h3 h2.size
  obtain ⟨G, k1, k2, k3⟩ := hT
  refine ⟨⟨G, k1, h2.trans hbl, h3, fun x hx => ?_⟩, fun x hx => ?_, k2.size⟩
  · obtain ⟨q0, q1, q2⟩ := h4 x hx
    refine ⟨q0, fun hg => ?_, Nat.lt_of_lt_of_le q2 k2.size⟩
    rcases k3 x hg with q | q
    · exact q1 q
    · omega
  · obtain ⟨q0, q1, q2⟩ := h4 x hx
    exact ⟨q2, k2.block x q2 q1⟩
theorem WL.later {w u v : World} {M : Nat} {X : List Nat} {m : WorldV} (h : WL w u M X m) (hb : Below u.heap.size u v) : WL w v M X m := by
  obtain ⟨F, h1, h2, h3, h4⟩ := h
  exact ⟨F, h1.later hb, belStep h2 hb, h3, fun x hx => ⟨(h4 x hx).1, (h4 x hx).2.1, Nat.lt_of_lt_of_le (h4 x hx).2.2 hb.size⟩⟩
/-- A block that the law made. -/
theorem WL.own {w u v : World} {M : Nat} {X : List Nat} {m : WorldV} (h : WL w u M X m) (hb : Below u.heap.size u v) {x : Nat} (h1 : u.heap.size ≤ x) (h2 : x < v.heap.size) : WL w v M (x :: X) m := by
  obtain ⟨F, k1, k2, k3, k4⟩ := h
  refine ⟨F, k1.later hb, belStep k2 hb, k3, fun y hy => ?_⟩
  rcases List.mem_cons.1 hy with rfl | hy
  · exact ⟨Nat.le_trans k2.size h1, fun hF => absurd (k1.foot_lt _ hF).2 (by omega), h2⟩
  · exact ⟨(k4 y hy).1, (k4 y hy).2.1, Nat.lt_of_lt_of_le (k4 y hy).2.2 hb.size⟩
/-- The law writes its own blocks. -/
theorem WL.mine {w u v : World} {M : Nat} {X : List Nat} {m : WorldV} (h : WL w u M X m) (ha : Apart X u v) : WL w v M X m := by
  obtain ⟨F, k1, k2, k3, k4⟩ := h
  refine ⟨F, k1.same (fun b hb => ha.block b (k1.foot_lt b hb).2 (fun hX => (k4 b hX).2.1 hb)), k2.trans (ha.below (fun b hb => (k4 b hb).1) k2.size), k3, fun x hx => ⟨(k4 x hx).1, (k4 x hx).2.1, Nat.lt_of_lt_of_le (k4 x hx).2.2 ha.size⟩⟩
theorem WL.sub {w u : World} {M : Nat} {X Y : List Nat} {m : WorldV} (h : WL w u M X m) (hY : ∀ y ∈ Y, y ∈ X) : WL w u M Y m := by
  obtain ⟨F, k1, k2, k3, k4⟩ := h
  exact ⟨F, k1, k2, k3, fun y hy => k4 y (hY y hy)⟩
theorem KX.row {X : List Nat} {u v : World} (h : KX X u v) {a : Option Addr} {len cap k : Nat} {cs : List Value} (hr : Row u a len cap k cs) (hX : ∀ x, a = some x → x.block ∈ X) : Row v a len cap k cs := by
  obtain ⟨h1, h2, h3, h4, h5⟩ := hr
  refine ⟨h1, h2, h3, h4, ?_⟩
  rcases h5 with h5 | ⟨b, off, rfl, h5⟩
  · exact .inl h5
  · refine .inr ⟨b, off, rfl, fun i hi => ?_⟩
    rw [← h5 i hi]
    unfold World.cell?
    rw [(h b (hX _ rfl)).2]
theorem KX.cell {X : List Nat} {u v : World} (h : KX X u v) {b o : Nat} {x : Value} (hc : u.cell? ⟨b, o, none⟩ = some x) (hb : b ∈ X) : v.cell? ⟨b, o, none⟩ = some x := by
  rw [← hc]; unfold World.cell?; rw [(h b hb).2]
theorem KX.own {X : List Nat} {u v : World} (h : KX X u v) {B k n : Nat} {E : TypeId} {x : Value} {cs : List Value} (ho : OwnR u B E k x n cs) (hX : ∀ g, x.ownBlock = some g → g ∈ X) : OwnR v B E k x n cs := own_same ho (fun g e => (h g (hX g e)).2)
theorem wl_New (r : Int) (w u : World) (hb : Below w.heap.size w u) :
    Calls Try.prog 39 #[.int .i64 r] u fun e w' => e = .returned (.pointer (some ⟨u.heap.size, 0, none⟩)) ∧ WL w w' u.heap.size [] ⟨r, [], [], []⟩ ∧ Below u.heap.size u w' := by
  refine (wd_New r u).mono ?_
  rintro e w' ⟨rfl, h1, h2⟩
  exact ⟨rfl, ⟨_, h1, belStep hb h2, hb.size, fun x hx => by cases hx⟩, h2⟩
theorem wl_Feed (w u : World) (M : Nat) (X : List Nat) (m : WorldV) (n : Nat) (h : WL w u M X m) (hg : m.Good n) (hn : n ≤ 100000) (d : Option Addr) (wl wc : Nat) (V : List Bool) (c : Int) (k : WorldV) (hv : V.length = wl) (hRV : Row u d wl wc 1 (V.map Value.bool)) (hw9 : wl ≤ 50000) (hc : feedE m V = c) (hk : m.fed V = k) :
    Calls Try.prog 44 #[.pointer (some ⟨M, 0, none⟩), .slice d wl wc] u fun e w' => e = .returned (.int .i64 c) ∧ WL w w' M X k ∧ KX X u w' ∧ u.heap.size ≤ w'.heap.size := by
  obtain ⟨F, h1, h2, h3, h4⟩ := h
  refine (wd_Feed M M F m d wl wc V u h1 hv hRV hg.outs hw9).mono ?_
  rintro e w' ⟨rfl, hT⟩
  rw [hk] at hT
  have hs := wl_step h1 h2 h3 h4 hT
  exact ⟨by rw [hc], hs.1, hs.2.1, hs.2.2⟩
theorem wl_Create (w u : World) (M : Nat) (X : List Nat) (m : WorldV) (n : Nat) (h : WL w u M X m) (hg : m.Good n) (hn : n ≤ 100000) (s : ByteArray) (round c : Int) (k : WorldV) (hc : createE m.boxes s = c) (hk : ({ m with boxes := createC m.boxes s round } : WorldV) = k) :
    Calls Try.prog 45 #[.pointer (some ⟨M, 0, none⟩), .string s, .int .i64 round] u fun e w' => e = .returned (.int .i64 c) ∧ WL w w' M X k ∧ KX X u w' ∧ u.heap.size ≤ w'.heap.size := by
  obtain ⟨F, h1, h2, h3, h4⟩ := h
  refine (wd_Create M M F m s round u h1 hg.rises (Nat.le_trans hg.len hn)).mono ?_
  rintro e w' ⟨rfl, hT⟩
  rw [hk] at hT
  have hs := wl_step h1 h2 h3 h4 hT
  exact ⟨by rw [hc], hs.1, hs.2.1, hs.2.2⟩
theorem wl_Ask (w u : World) (M : Nat) (X : List Nat) (m : WorldV) (n : Nat) (h : WL w u M X m) (hg : m.Good n) (hn : n ≤ 100000) (s : ByteArray) (what round c : Int) (b : Bool) (k : WorldV) (hwh : InI what) (hc : askC m s what = c) (hb : askB m s what = b) (hk : askW m s what round = k) :
    Calls Try.prog 50 #[.pointer (some ⟨M, 0, none⟩), .string s, .int .i64 what, .int .i64 round] u fun e w' => e = .returned (.tuple #[.bool b, .int .i64 c]) ∧ WL w w' M X k ∧ KX X u w' ∧ u.heap.size ≤ w'.heap.size := by
  obtain ⟨F, h1, h2, h3, h4⟩ := h
  refine (wd_Ask M M F m s what round u h1 hg.rises (Nat.le_trans hg.len hn) (fun x hx => (hg.ok x hx).1) hwh).mono ?_
  rintro e w' ⟨rfl, hT⟩
  rw [hk] at hT
  have hs := wl_step h1 h2 h3 h4 hT
  exact ⟨by rw [hc, hb], hs.1, hs.2.1, hs.2.2⟩
theorem wl_Pull (w u : World) (M : Nat) (X : List Nat) (m : WorldV) (n : Nat) (h : WL w u M X m) (hg : m.Good n) (hn : n ≤ 100000) (s nm : ByteArray) (size round c : Int) (b b2 : Bool) (k : WorldV) (hc : mayC m.boxes s 1 = c) (hb : pullB m s nm = b) (hb2 : pullN m s nm = b2) (hk : pullW m s nm size round = k) :
    Calls Try.prog 46 #[.pointer (some ⟨M, 0, none⟩), .string s, .string nm, .int .i64 size, .int .i64 round] u fun e w' => e = .returned (.tuple #[.bool b, .bool b2, .int .i64 c]) ∧ WL w w' M X k ∧ KX X u w' ∧ u.heap.size ≤ w'.heap.size := by
  obtain ⟨F, h1, h2, h3, h4⟩ := h
  refine (wd_Pull M M F m s nm size round u h1 hg.rises (Nat.le_trans hg.len hn) (fun x hx => (hg.ok x hx).1) hg.risesI (Nat.le_trans hg.lenI hn)).mono ?_
  rintro e w' ⟨rfl, hT⟩
  rw [hk] at hT
  have hs := wl_step h1 h2 h3 h4 hT
  exact ⟨by rw [hc, hb, hb2], hs.1, hs.2.1, hs.2.2⟩
theorem wl_Drop (w u : World) (M : Nat) (X : List Nat) (m : WorldV) (n : Nat) (h : WL w u M X m) (hg : m.Good n) (hn : n ≤ 100000) (nm : ByteArray) (c : Int) (b : Bool) (k : WorldV) (hc : dropC m nm = c) (hb : dropB m nm = b) (hk : dropW m nm = k) :
    Calls Try.prog 51 #[.pointer (some ⟨M, 0, none⟩), .string nm] u fun e w' => e = .returned (.tuple #[.bool b, .int .i64 c]) ∧ WL w w' M X k ∧ KX X u w' ∧ u.heap.size ≤ w'.heap.size := by
  obtain ⟨F, h1, h2, h3, h4⟩ := h
  refine (wd_Drop M M F m nm u h1 hg.risesI (Nat.le_trans hg.lenI hn)).mono ?_
  rintro e w' ⟨rfl, hT⟩
  rw [hk] at hT
  have hs := wl_step h1 h2 h3 h4 hT
  exact ⟨by rw [hc, hb], hs.1, hs.2.1, hs.2.2⟩
theorem wl_Touch (w u : World) (M : Nat) (X : List Nat) (m : WorldV) (n : Nat) (h : WL w u M X m) (hg : m.Good n) (hn : n ≤ 100000) (d : Option Addr) (ul uc : Nat) (U : List ByteArray) (round : Int) (k : WorldV) (hu : U.length = ul) (hRU : Row u d ul uc 1 (U.map Value.string)) (hk : touchW m U round = k) :
    Calls Try.prog 74 #[.pointer (some ⟨M, 0, none⟩), .slice d ul uc, .int .i64 round] u fun e w' => e = .returned (.tuple #[]) ∧ WL w w' M X k ∧ KX X u w' ∧ u.heap.size ≤ w'.heap.size := by
  obtain ⟨F, h1, h2, h3, h4⟩ := h
  refine (wd_Touch M M F m d ul uc U round u h1 hg.risesI (Nat.le_trans hg.lenI hn) hu hRU).mono ?_
  rintro e w' ⟨rfl, hT⟩
  rw [hk] at hT
  have hs := wl_step h1 h2 h3 h4 hT
  exact ⟨rfl, hs.1, hs.2.1, hs.2.2⟩
theorem wl_Box (w u : World) (M : Nat) (X : List Nat) (m : WorldV) (n : Nat) (h : WL w u M X m) (hg : m.Good n) (hn : n ≤ 100000) (s : ByteArray) (t : Bool) (st tr : Int) (ht : thereC m.boxes s = t) (hst : (fndC m.boxes s).state = st) (htr : (fndC m.boxes s).tries = tr) :
    Calls Try.prog 41 #[.pointer (some ⟨M, 0, none⟩), .string s] u fun e w' => e = .returned (.tuple #[.agg #[.int .i64 st, .int .i64 tr], .bool t]) ∧ WL w w' M X m ∧ Below u.heap.size u w' := by
  obtain ⟨F, h1, h2, h3, h4⟩ := h
  refine (wd_Box M M F m s u h1 hg.rises (Nat.le_trans hg.len hn)).mono ?_
  rintro e w' ⟨rfl, hb⟩
  exact ⟨by rw [ht, hst, htr], WL.later ⟨F, h1, h2, h3, h4⟩ hb, hb⟩
theorem wl_Containers (w u : World) (M : Nat) (X : List Nat) (m : WorldV) (n : Nat) (h : WL w u M X m) (hg : m.Good n) (hn : n ≤ 100000) (l : Nat) (hl : m.boxes.length = l) :
    Calls Try.prog 48 #[.pointer (some ⟨M, 0, none⟩)] u fun e w' => ∃ a c, e = .returned (.slice a l c) ∧ OwnR w' u.heap.size 35 4 (.slice a l c) l (m.boxes.flatMap ContV.cells) ∧ Row w' a l c 4 (m.boxes.flatMap ContV.cells) ∧ WL w w' M X m ∧ Below u.heap.size u w' := by
  obtain ⟨F, h1, h2, h3, h4⟩ := h
  refine (wd_Containers M M F m u h1 (Nat.le_trans hg.len hn)).mono ?_
  rintro e w' ⟨v, rfl, ho, hb⟩
  obtain ⟨a, c, rfl, hr⟩ := rowR_of_own ho
  subst hl
  exact ⟨a, c, rfl, ho, hr, WL.later ⟨F, h1, h2, h3, h4⟩ hb, hb⟩
theorem wl_Images (w u : World) (M : Nat) (X : List Nat) (m : WorldV) (n : Nat) (h : WL w u M X m) (hg : m.Good n) (hn : n ≤ 100000) (l : Nat) (hl : m.images.length = l) :
    Calls Try.prog 49 #[.pointer (some ⟨M, 0, none⟩)] u fun e w' => ∃ a c, e = .returned (.slice a l c) ∧ OwnR w' u.heap.size 46 3 (.slice a l c) l (m.images.flatMap ImgV.cells) ∧ Row w' a l c 3 (m.images.flatMap ImgV.cells) ∧ WL w w' M X m ∧ Below u.heap.size u w' := by
  obtain ⟨F, h1, h2, h3, h4⟩ := h
  refine (wd_Images M M F m u h1 (Nat.le_trans hg.lenI hn)).mono ?_
  rintro e w' ⟨v, rfl, ho, hb⟩
  obtain ⟨a, c, rfl, hr⟩ := rowR_of_own ho
  subst hl
  exact ⟨a, c, rfl, ho, hr, WL.later ⟨F, h1, h2, h3, h4⟩ hb, hb⟩
theorem wl_Waiting (w u : World) (M : Nat) (X : List Nat) (m : WorldV) (n : Nat) (h : WL w u M X m) (hg : m.Good n) (hn : n ≤ 100000) (l : Nat) (hl : m.outs.length = l) :
    Calls Try.prog 47 #[.pointer (some ⟨M, 0, none⟩)] u fun e w' => ∃ a c, e = .returned (.slice a l c) ∧ OwnR w' u.heap.size 4 1 (.slice a l c) l (m.outs.map Value.bool) ∧ Row w' a l c 1 (m.outs.map Value.bool) ∧ WL w w' M X m ∧ Below u.heap.size u w' := by
  obtain ⟨F, h1, h2, h3, h4⟩ := h
  refine (wd_Waiting M M F m u h1 (Nat.le_trans hg.outs (by omega))).mono ?_
  rintro e w' ⟨v, rfl, ho, hb⟩
  obtain ⟨a, c, rfl, hr⟩ := rowR_of_own ho
  subst hl
  exact ⟨a, c, rfl, ho, hr, WL.later ⟨F, h1, h2, h3, h4⟩ hb, hb⟩
end Go.Proofs.Ytampkolkbjmmkaa
