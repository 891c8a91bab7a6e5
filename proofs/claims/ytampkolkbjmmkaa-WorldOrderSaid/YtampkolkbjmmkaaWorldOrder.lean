
/- WorldOrder holds for all its arguments. No conditions. -/
import Derived.Test.YtampkolkbjmmkaaWl5
namespace Go.Proofs.Ytampkolkbjmmkaa.worldOrder
open Go.ChangeShapes Go.WideShapes Go.ChangeAt Go.RowKit
open Go.ChangeMaps (open_string shut_string)
set_option linter.unusedVariables false
set_option linter.unusedSimpArgs false
open Go.Sort
def idB (k : Nat) : ByteArray := ⟨[UInt8.ofNat (k / 100), UInt8.ofNat (k % 100)].toArray⟩
theorem idB_list (k : Nat) : (idB k).toList = [UInt8.ofNat (k / 100), UInt8.ofNat (k % 100)] := by rw [ByteArray.toList_eq]; rfl
theorem u8_lt {a b : Nat} (h : a < b) (hb : b < 256) : UInt8.ofNat a < UInt8.ofNat b := by
  rw [UInt8.lt_iff_toNat_lt, UInt8.toNat_ofNat', UInt8.toNat_ofNat']
  omega
theorem idB_lt {j k : Nat} (h : j < k) (hk : k ≤ 300) : (idB j).toList < (idB k).toList := by
  rw [idB_list, idB_list]
  by_cases e : j / 100 = k / 100
  · rw [e]; exact List.cons_lt_cons_iff.2 (.inr ⟨rfl, List.cons_lt_cons_iff.2 (.inl (u8_lt (by omega) (by omega)))⟩)
  · exact List.cons_lt_cons_iff.2 (.inl (u8_lt (by omega) (by omega)))
theorem idB_size (k : Nat) : (idB k).size ≤ maxLen := by show 2 ≤ maxLen; unfold maxLen; omega
theorem idB_conv (k : Nat) (hk : k ≤ 300) (u : World) : (convert 71 9 (.slice (some ⟨u.heap.size, 0, none⟩) 2 2)).run Try.prog (u.alloc (.cells #[.int .u8 ((k / 100 : Nat) : Int), .int .u8 ((k % 100 : Nat) : Int)] 5)) = .ok (.string (idB k)) (u.alloc (.cells #[.int .u8 ((k / 100 : Nat) : Int), .int .u8 ((k % 100 : Nat) : Int)] 5)) := by
  refine run_convert_bytes_back (P := Try.prog) (u.alloc (.cells #[.int .u8 ((k / 100 : Nat) : Int), .int .u8 ((k % 100 : Nat) : Int)] 5)) 71 9 5 ⟨u.heap.size, 0, none⟩ 2 [UInt8.ofNat (k / 100), UInt8.ofNat (k % 100)] Try.underlying71 Try.underlying5 Try.underlying9 (fun j hj => ?_)
  have hb := Blk.new u [.int .u8 ((k / 100 : Nat) : Int), .int .u8 ((k % 100 : Nat) : Int)] 5
  have e1 : ((UInt8.ofNat (k / 100)).toNat : Int) = ((k / 100 : Nat) : Int) := by rw [UInt8.toNat_ofNat']; omega
  have e2 : ((UInt8.ofNat (k % 100)).toNat : Int) = ((k % 100 : Nat) : Int) := by rw [UInt8.toNat_ofNat']; omega
  match j, hj with
  | 0, _ => show _ = some (Value.int .u8 ((UInt8.ofNat (k / 100)).toNat : Int)); rw [e1]; exact hb.cell (j := 0) rfl
  | 1, _ => show _ = some (Value.int .u8 ((UInt8.ofNat (k % 100)).toNat : Int)); rw [e2]; exact hb.cell (j := 1) rfl
/-! What comes last. -/
theorem last_place {L : List ContV} {s : ByteArray} (h : ∀ x ∈ L, x.id.toList < s.toList) : placeC L s = L.length ∧ thereC L s = false := by
  constructor
  · unfold placeC
    rw [List.filter_eq_self.2 (fun x hx => decide_eq_true (h x hx))]
  · unfold thereC
    rw [List.any_eq_false]
    intro x hx hc
    have h1 := h x hx
    rw [eq_of_beq hc] at h1
    exact List.lt_irrefl _ h1
theorem last_create {L : List ContV} {s : ByteArray} (h : ∀ x ∈ L, x.id.toList < s.toList) (r : Int) : createE L s = 0 ∧ createC L s r = L ++ [⟨s, 1, 0, r⟩] := by
  obtain ⟨h1, h2⟩ := last_place h
  unfold createE createC
  rw [h2, h1, List.take_length, List.drop_length]
  exact ⟨rfl, rfl⟩
theorem last_at {L : List ContV} {x : ContV} (h : ∀ y ∈ L, y.id.toList < x.id.toList) : placeC (L ++ [x]) x.id = L.length ∧ thereC (L ++ [x]) x.id = true ∧ fndC (L ++ [x]) x.id = x := by
  have h1 : placeC (L ++ [x]) x.id = L.length := by
    unfold placeC
    rw [List.filter_append, List.filter_eq_self.2 (fun y hy => decide_eq_true (h y hy)), List.filter_cons_of_neg (by simp)]
    simp
  have h2 : thereC (L ++ [x]) x.id = true := by unfold thereC; simp
  exact ⟨h1, h2, fndC_at h2 (by rw [h1]; simp)⟩
theorem last_may {L : List ContV} {x : ContV} (h : ∀ y ∈ L, y.id.toList < x.id.toList) (k : Int) : mayC (L ++ [x]) x.id k = if toS x.state k = 0 then 7 else 0 := by
  obtain ⟨_, h2, h3⟩ := last_at h
  unfold mayC
  rw [h2, h3]; rfl
theorem last_settle {L : List ContV} {x : ContV} (what : Int) (well : Bool) (round r : Int) (h5 : (newC x what well round r).state ≠ 5) : settleC (L ++ [x]) L.length x what well round r = L ++ [newC x what well round r] := by
  unfold settleC
  rw [if_neg h5, List.set_append_right _ _ (Nat.le_refl _), Nat.sub_self]
  rfl
theorem last_img {I : List ImgV} {s : ByteArray} (h : ∀ x ∈ I, x.name.toList < s.toList) (z r : Int) : thereB I s = false ∧ putI I s z r = I ++ [⟨s, z, r⟩] := by
  have h1 : placeF I s = I.length := by unfold placeF; rw [List.filter_eq_self.2 (fun x hx => decide_eq_true (h x hx))]
  have h2 : thereB I s = false := by
    unfold thereB
    rw [List.any_eq_false]
    intro x hx hc
    have h1 := h x hx
    rw [eq_of_beq hc] at h1
    exact List.lt_irrefl _ h1
  refine ⟨h2, ?_⟩
  rw [put_no h2, h1, List.take_length, List.drop_length]
/-! Of containers that are created and asked for their images, one behind the other. -/
def wellT (T : List Bool) (k : Nat) : Bool := (T[k]?).getD true
def boxO (T : List Bool) (k : Nat) : ContV := if wellT T k then ⟨idB k, 2, 0, k⟩ else ⟨idB k, 1, 1, 0⟩
def boxL (T : List Bool) : Nat → List ContV
  | 0 => []
  | k + 1 => boxL T k ++ [boxO T k]
def imgL (T : List Bool) : Nat → List ImgV
  | 0 => []
  | k + 1 => if wellT T k then imgL T k ++ [⟨idB k, 1, k⟩] else imgL T k
def oW (T : List Bool) (k : Nat) : WorldV := ⟨1, T.drop k, boxL T k, imgL T k⟩
def oC (T : List Bool) (k : Nat) : WorldV := ⟨1, T.drop k, boxL T k ++ [⟨idB k, 1, 0, 0⟩], imgL T k⟩
theorem boxL_len (T : List Bool) (k : Nat) : (boxL T k).length = k := by
  induction k with
  | zero => rfl
  | succ k ih => show (boxL T k ++ [boxO T k]).length = k + 1; rw [List.length_append, ih]; rfl
theorem boxO_id (T : List Bool) (k : Nat) : (boxO T k).id = idB k := by unfold boxO; split <;> rfl
theorem boxL_lt (T : List Bool) {k m : Nat} (hm : m ≤ 300) (h : k ≤ m) : ∀ x ∈ boxL T k, x.id.toList < (idB m).toList := by
  induction k with
  | zero => intro x hx; cases hx
  | succ k ih =>
    intro x hx
    rcases List.mem_append.1 hx with hx | hx
    · exact ih (by omega) x hx
    · simp only [List.mem_singleton] at hx
      subst hx
      rw [boxO_id]; exact idB_lt h hm
theorem imgL_lt (T : List Bool) {k m : Nat} (hm : m ≤ 300) (h : k ≤ m) : ∀ x ∈ imgL T k, x.name.toList < (idB m).toList := by
  induction k with
  | zero => intro x hx; cases hx
  | succ k ih =>
    intro x hx
    unfold imgL at hx
    split at hx
    · rcases List.mem_append.1 hx with hx | hx
      · exact ih (by omega) x hx
      · simp only [List.mem_singleton] at hx
        subst hx
        exact idB_lt h hm
    · exact ih (by omega) x hx
theorem oq1 (T : List Bool) {k : Nat} (hk : k ≤ 300) : createE (oW T k).boxes (idB k) = 0 ∧ ({ oW T k with boxes := createC (oW T k).boxes (idB k) 0 } : WorldV) = oC T k := by
  obtain ⟨h1, h2⟩ := last_create (boxL_lt T hk (Nat.le_refl k)) 0
  refine ⟨h1, ?_⟩
  show (⟨1, T.drop k, createC (boxL T k) (idB k) 0, imgL T k⟩ : WorldV) = _
  rw [h2]; rfl
theorem takeB_drop (T : List Bool) (k : Nat) : takeB (T.drop k) = wellT T k := by
  unfold takeB wellT
  rw [List.headD_eq_head?_getD, List.head?_drop]
theorem newC_O (k : Nat) (b : Bool) : newC ⟨idB k, 1, 0, 0⟩ 1 b k 1 = if b then ⟨idB k, 2, 0, k⟩ else ⟨idB k, 1, 1, 0⟩ := by cases b <;> rfl
theorem oq2 (T : List Bool) {k : Nat} (hk : k ≤ 300) : mayC (oC T k).boxes (idB k) 1 = 0 ∧ pullB (oC T k) (idB k) (idB k) = wellT T k ∧ pullN (oC T k) (idB k) (idB k) = wellT T k ∧ pullW (oC T k) (idB k) (idB k) 1 k = oW T (k + 1) := by
  have hlt := boxL_lt T hk (Nat.le_refl k)
  obtain ⟨h1, h2, h3⟩ := last_at (x := ⟨idB k, 1, 0, 0⟩) hlt
  obtain ⟨i1, i2⟩ := last_img (imgL_lt T hk (Nat.le_refl k)) 1 k
  have h0 : mayC (boxL T k ++ [⟨idB k, 1, 0, 0⟩]) (idB k) 1 = 0 := (last_may (x := ⟨idB k, 1, 0, 0⟩) hlt 1).trans rfl
  have hv : pullV (oC T k) (idB k) = wellT T k := by
    show (thereB (imgL T k) (idB k) || takeB (T.drop k)) = _
    rw [i1, takeB_drop, Bool.false_or]
  refine ⟨h0, ?_, ?_, ?_⟩
  · unfold pullB; rw [if_pos (show mayC (oC T k).boxes (idB k) 1 = 0 from h0), hv]
  · unfold pullN; rw [if_pos (show mayC (oC T k).boxes (idB k) 1 = 0 from h0), hv, show thereB (oC T k).images (idB k) = false from i1]; simp
  · unfold pullW
    rw [if_pos (show mayC (oC T k).boxes (idB k) 1 = 0 from h0), hv]
    show (⟨1, if thereB (imgL T k) (idB k) then T.drop k else (T.drop k).tail, settleC (boxL T k ++ [⟨idB k, 1, 0, 0⟩]) (placeC (boxL T k ++ [⟨idB k, 1, 0, 0⟩]) (idB k)) (fndC (boxL T k ++ [⟨idB k, 1, 0, 0⟩]) (idB k)) 1 (wellT T k) k 1, if wellT T k then putI (imgL T k) (idB k) 1 k else imgL T k⟩ : WorldV) = _
    rw [show placeC (boxL T k ++ [⟨idB k, 1, 0, 0⟩]) (idB k) = (boxL T k).length from h1, show fndC (boxL T k ++ [⟨idB k, 1, 0, 0⟩]) (idB k) = ⟨idB k, 1, 0, 0⟩ from h3, last_settle _ _ _ _ (by rw [newC_O]; cases wellT T k <;> (intro h; cases h)), newC_O, i1, i2, if_neg (by decide), List.tail_drop]
    rfl
theorem og (T : List Bool) (hT : T.length ≤ 4096) {k : Nat} (hk : k ≤ 300) : (oW T k).Good (2 * k) := by
  induction k with
  | zero => exact ⟨List.Pairwise.nil, List.Pairwise.nil, Nat.le_refl _, Nat.le_refl _, hT, fun x hx => by cases hx⟩
  | succ k ih =>
    have h1 := ih (by omega)
    have h2 : (oC T k).Good (2 * k + 1) := (oq1 T (k := k) (by omega)).2 ▸ good_create h1 (idB_size k) (by unfold InI; simp)
    exact (oq2 T (k := k) (by omega)).2.2.2 ▸ good_pull h2 (idB k) (idB k) 1 (round := k) (by unfold InI; omega)
theorem ogC (T : List Bool) (hT : T.length ≤ 4096) {k : Nat} (hk : k ≤ 300) : (oC T k).Good (2 * k + 1) := (oq1 T hk).2 ▸ good_create (og T hT hk) (idB_size k) (by unfold InI; simp)
theorem wellT_at {T : List Bool} {k : Nat} {b : Bool} (h : T[k]? = some b) : wellT T k = b := by unfold wellT; rw [h]; rfl
theorem wellT_no {T : List Bool} {k : Nat} (h : T.length ≤ k) : wellT T k = true := by unfold wellT; rw [List.getElem?_eq_none h]; rfl
/-- The runtime and the list of the outcomes. -/
def OrdS (w u : World) (M : Nat) (v : Value) (T : List Bool) (m : WorldV) : Prop := WL w u M v.ownBlock.toList m ∧ OwnR u w.heap.size 4 1 v T.length (T.map Value.bool)
theorem OrdS.call {w u u' : World} {M : Nat} {v : Value} {T : List Bool} {m k : WorldV} (h : OrdS w u M v T m) (hS : WL w u' M v.ownBlock.toList k) (hK : KX v.ownBlock.toList u u') : OrdS w u' M v T k :=
  ⟨hS, hK.own h.2 (fun g e => by simp [e])⟩
theorem OrdS.later {w u u' : World} {M : Nat} {v : Value} {T : List Bool} {m : WorldV} (h : OrdS w u M v T m) (hb : Below u.heap.size u u') : OrdS w u' M v T m := ⟨h.1.later hb, OwnR.later h.2 hb⟩
theorem OrdS.start {w u u' : World} {M : Nat} {v : Value} {T : List Bool} {m : WorldV} (h : WL w u M [] m) (hb : Below u.heap.size u u') (ho : OwnR u' u.heap.size 4 1 v T.length (T.map Value.bool)) : OrdS w u' M v T m :=
  ⟨h.grown (Apart.of_below hb) (fun y hy => by rw [Option.mem_toList] at hy; have := own_type ho hy; exact .inr ⟨this.1, this.2.1⟩), OwnR.mono ho h.below.size⟩
theorem OrdS.cell {w u : World} {M : Nat} {g o : Nat} {n c : Nat} {T : List Bool} {m : WorldV} (h : OrdS w u M (.slice (some ⟨g, o, none⟩) n c) T m) {k : Nat} {b : Bool} (hk : T[k]? = some b) : u.cell? ⟨g, o + k, none⟩ = some (.bool b) := by
  obtain ⟨a2, c2, e, hr⟩ := rowR_of_own h.2
  simp only [Value.slice.injEq] at e
  obtain ⟨rfl, _, rfl⟩ := e
  obtain ⟨b2, o2, e2, hc⟩ := bool_cell hr hk
  simp only [Option.some.injEq, Addr.mk.injEq, and_true] at e2
  obtain ⟨rfl, rfl⟩ := e2
  exact hc
theorem bools_oneW (V : List Bool) : ∀ v ∈ V.map Value.bool, v.oneCell' = true := fun v hv => by obtain ⟨x, _, rfl⟩ := List.mem_map.1 hv; rfl
set_option maxRecDepth 100000 in
set_option maxHeartbeats 32000000 in
theorem walk (d1 : Option Addr) (l1 c1 : Nat) (A : List Bool) (d2 : Option Addr) (l2 c2 : Nat) (B : List Bool) (m0 : Int) (w : World) (hA : Bools w d1 l1 c1 A) (hB : Bools w d2 l2 c2 B) (hm : 0 ≤ m0 ∧ m0 ≤ 255) :
    Calls Try.prog 12 #[.slice d1 l1 c1, .slice d2 l2 c2, .int .u8 m0] w fun e w' => e = .returned (.bool true) ∧ Below w.heap.size w w' := by
  have hw : Below w.heap.size w w := Below.refl _ _
  have hbel := hw
  have hb1 : l1 ≤ c1 ∧ c1 ≤ 9223372036854775807 := by obtain ⟨_, h1, h2, _⟩ := (bools_row hA).2; unfold maxLen at h2; exact ⟨h1, h2⟩
  obtain ⟨hb11, hb12⟩ := hb1
  have HL1 := Lib.hid (bools_row hA).1
  have HR1 := Lib.hid (bools_row hA).2
  have hb2 : l2 ≤ c2 ∧ c2 ≤ 9223372036854775807 := by obtain ⟨_, h1, h2, _⟩ := (bools_row hB).2; unfold maxLen at h2; exact ⟨h1, h2⟩
  obtain ⟨hb21, hb22⟩ := hb2
  have HL2 := Lib.hid (bools_row hB).1
  have HR2 := Lib.hid (bools_row hB).2
  clear hA hB
  obtain ⟨hm0, hm9⟩ := hm
  obtain ⟨e, he, _, hel⟩ := turn_to (n := 8) hm0 (by omega)
  have he2 : Int.tmod m0 8 = (e : Int) := he
  clear he
  have hw8 : IntKind.u8.wrap (e : Int) = (e : Int) := IntWalk.u8_in _ (by omega)
  have hw6 : IntKind.i64.wrap (e : Int) = (e : Int) := IntWalk.i64_in _ (by omega)
  go_enter Try.func12, Try.ntmps12
  by_cases h1 : 100 < l1
  · have t5 : decide (100 < (l1 : Int)) = true := decide_eq_true (by omega)
    have t6 : (100 : Int) < (l1 : Int) := by omega
    go_wp2_with (first | (go_at_call 37; (with_reducible refine (awake16 _).mono ?_); rintro e w1 ⟨rfl, hb1⟩; replace hbel := belStep hbel hb1; clear hb1))
    go_ret
    exact ⟨rfl, hbel⟩
  · have t1 : decide (100 < (l1 : Int)) = false := decide_eq_false (by omega)
    have u1 : ¬ (100 : Int) < (l1 : Int) := by omega
    by_cases h2 : 100 < l2
    · have t5 : decide (100 < (l2 : Int)) = true := decide_eq_true (by omega)
      have t6 : (100 : Int) < (l2 : Int) := by omega
      go_wp2_with (first | (go_at_call 37; (with_reducible refine (awake16 _).mono ?_); rintro e w1 ⟨rfl, hb1⟩; replace hbel := belStep hbel hb1; clear hb1))
      go_ret
      exact ⟨rfl, hbel⟩
    · have t2 : decide (100 < (l2 : Int)) = false := decide_eq_false (by omega)
      have u2 : ¬ (100 : Int) < (l2 : Int) := by omega
      have HF1 := Lib.hid (show feedE ⟨1, [], [], []⟩ A = 0 ∧ (⟨1, [], [], []⟩ : WorldV).fed A = ⟨1, A, [], []⟩ by have h9 := HL1.out; unfold feedE WorldV.fed; rw [if_neg (by show ¬ 4096 < 0 + A.length; omega), if_neg (by show ¬ 4096 < 0 + A.length; omega)]; exact ⟨rfl, rfl⟩)
      have HF2 := Lib.hid (show feedE ⟨1, A, [], []⟩ B = 0 ∧ (⟨1, A, [], []⟩ : WorldV).fed B = oW (A ++ B) 0 by have h9 := HL1.out; have h8 := HL2.out; unfold feedE WorldV.fed; rw [if_neg (by show ¬ 4096 < A.length + B.length; omega), if_neg (by show ¬ 4096 < A.length + B.length; omega)]; exact ⟨rfl, rfl⟩)
      have HG1 := Lib.hid (show (⟨1, A, [], []⟩ : WorldV).Good 0 from HF1.out.2 ▸ good_fed (good_new 1) A)
      have C1 := Lib.hid (fun u M (h : WL w u M [] ⟨1, [], [], []⟩) => wl_Feed w u M [] ⟨1, [], [], []⟩ 0 h (good_new 1) (by omega) d1 l1 c1 A 0 ⟨1, A, [], []⟩ HL1.out (HR1.out.later h.below) (by omega) HF1.out.1 HF1.out.2)
      have C2 := Lib.hid (fun u M (h : WL w u M [] ⟨1, A, [], []⟩) => wl_Feed w u M [] ⟨1, A, [], []⟩ 0 h HG1.out (by omega) d2 l2 c2 B 0 (oW (A ++ B) 0) HL2.out (HR2.out.later h.below) (by omega) HF2.out.1 HF2.out.2)
      go_upto_region 6 with (first | (go_at_call 37; (with_reducible refine (awake16 _).mono ?_); rintro e w1 ⟨rfl, hb1⟩; replace hbel := belStep hbel hb1; clear hb1) | (go_at_call 39; (with_reducible refine (wl_NewM 1 w _ hbel).mono ?_); rintro e w1 ⟨M, rfl, hS_, hb_⟩; have HS := Lib.hid hS_; clear hS_ hb_) | (go_at_call 44; (with_reducible refine (C1.out _ _ HS.out).mono ?_); rintro e w2 ⟨rfl, hS_, hK_, hz_⟩; replace HS := Lib.hid hS_; clear hS_ hK_ hz_) | (go_at_call 44; (with_reducible refine (C2.out _ _ HS.out).mono ?_); rintro e w3 ⟨rfl, hS_, hK_, hz_⟩; replace HS := Lib.hid hS_; clear hS_ hK_ hz_))
      clear hbel t1 u1 t2 u2 C1 C2
      obtain ⟨n, hn⟩ : ∃ n, l1 + l2 = n := ⟨_, rfl⟩
      obtain ⟨T, hT⟩ : ∃ T, A ++ B = T := ⟨_, rfl⟩
      rw [hT] at HS
      have HTL := Lib.hid (show T.length = n by rw [← hT, List.length_append, HL1.out, HL2.out]; exact hn)
      have HT := Lib.hid hT
      have HN := Lib.hid hn
      have hn200 : n ≤ 200 := by omega
      have hl12 : l1 ≤ 100 ∧ l2 ≤ 100 := by omega
      clear hn hT h1 h2
      generalize w3 = W3 at *
      have hk0 : Below W3.heap.size W3 (W3.alloc (.cells #[] 4)) := belAlloc (Below.refl _ _) _
      have HO0 := Lib.hid (own_empty W3 4 1)
      have HRA := Lib.hid (HR1.out.later (belStep HS.out.below hk0))
      have HB0 := Lib.hid hk0
      clear hk0
      go_upto_region 7 with (first | (at_builtin; refine wpList_app_row rfl _ _ 40 rfl W3.heap.size 4 (.bool false) 1 1 Try.underlying40 info_boolI rfl (by decide) _ 0 [] rfl HO0.out _ l1 _ _ rfl HRA.out (bools_oneW _) (by unfold maxLen; omega) (by omega) (Below.size HB0.out) ?_; intro v4 w4 ho_ hb_ hg_; have HO1 := Lib.hid ho_; replace HB0 := Lib.hid (HB0.out.trans hb_); have HRB := Lib.hid (HR2.out.later (belStep HS.out.below HB0.out)); clear ho_ hb_ hg_ HO0 HRA) | (at_builtin; refine wpList_app_row rfl _ _ 40 rfl W3.heap.size 4 (.bool false) 1 1 Try.underlying40 info_boolI rfl (by decide) _ (0 + l1) ([] ++ A.map Value.bool) rfl HO1.out _ l2 _ _ rfl HRB.out (bools_oneW _) (by unfold maxLen; omega) (by omega) (Below.size HB0.out) ?_; intro v5 w5 ho_ hb_ hg_; have ho2_ : OwnR w5 W3.heap.size 4 1 v5 T.length (T.map Value.bool) := (by have e1 : T.length = 0 + l1 + l2 := (by rw [HTL.out, Nat.zero_add]; exact HN.out.symm); have e2 : T.map Value.bool = [] ++ A.map Value.bool ++ B.map Value.bool := (by rw [← HT.out, List.map_append, List.nil_append]); rw [e1, e2]; exact ho_); replace HB0 := Lib.hid (HB0.out.trans hb_); replace HS := Lib.hid (OrdS.start HS.out HB0.out ho2_); obtain ⟨oa, oc, e9, hr9_⟩ := rowR_of_own ho2_; rw [HTL.out] at e9; subst e9; have hbo := hr9_.2; clear ho_ ho2_ hb_ hg_ HO1 HRB hr9_))
      have hbo2 : n ≤ oc ∧ oc ≤ 9223372036854775807 := by obtain ⟨h1, h2, _⟩ := hbo; unfold maxLen at h2; exact ⟨by have := HTL.out; omega, h2⟩
      obtain ⟨hbo3, hbo4⟩ := hbo2
      clear hbo HB0 HL1 HL2 HR1 HR2 HF1 HF2 HG1 HT HN hb11 hb12 hb21 hb22
      generalize w5 = W5 at *
      rcases own_open HS.out.2 with ⟨e9, hz9, _⟩ | ⟨g, cap9, C9, e9, _⟩
      · have HN0 := Lib.hid (show n = 0 by rw [← HTL.out]; exact hz9)
        have e8 : oa = none := by injection e9
        subst e8
        clear e9 hz9
        obtain ⟨N, hN⟩ : ∃ N, n + e = N := ⟨_, rfl⟩
        have hNi : (n : Int) + (e : Int) = (N : Int) := by omega
        have hwN : IntKind.i64.wrap (N : Int) = (N : Int) := IntWalk.i64_in _ (by omega)
        have hN9 : N ≤ 207 := by omega
        have hTL4 := Lib.hid (show T.length ≤ 4096 by rw [HTL.out]; omega)
        clear hw
        go_wp2
        clear hNi hwN he2 hw8 hw6 hm0 hm9
        go_loopw [10] (fun iv wr => ∃ k : Nat, k ≤ N ∧ iv = .int .i64 k ∧ Hid (OrdS w wr M (.slice none n oc) T (oW T k))) (fun iv _ => N - (intOf iv).toNat)
        case atStart => exact ⟨0, Nat.zero_le _, rfl, HS⟩
        case round =>
          clear HS
          obtain ⟨k, hk, rfl, HS⟩ := hrel
          by_cases hlt : k < N
          · have hd : decide ((k : Int) < (N : Int)) = true := decide_eq_true (by omega)
            have hdi : (k : Int) < (N : Int) := by omega
            have hcv := idB_conv k (by omega)
            obtain ⟨q, hq⟩ : ∃ q, k / 100 = q := ⟨_, rfl⟩
            obtain ⟨p, hp⟩ : ∃ p, k % 100 = p := ⟨_, rfl⟩
            rw [hq, hp] at hcv
            have hqd : Int.tdiv (k : Int) 100 = (q : Int) := by rw [Int.tdiv_eq_ediv_of_nonneg (by omega)]; omega
            have hpd : Int.tmod (k : Int) 100 = (p : Int) := by rw [Int.tmod_eq_emod_of_nonneg (by omega)]; omega
            have hq3 : q ≤ 2 := by omega
            have hp3 : p ≤ 99 := by omega
            have h8q : IntKind.u8.wrap (q : Int) = (q : Int) := IntWalk.u8_in _ (by omega)
            have h6q : IntKind.i64.wrap (q : Int) = (q : Int) := IntWalk.i64_in _ (by omega)
            have h8p : IntKind.u8.wrap (p : Int) = (p : Int) := IntWalk.u8_in _ (by omega)
            have h6p : IntKind.i64.wrap (p : Int) = (p : Int) := IntWalk.i64_in _ (by omega)
            clear hq hp
            go_upto_region 12 with fail
            clear hcv hqd hpd h8q h6q h8p h6p hdi
            replace HS := Lib.hid (HS.out.later (belAlloc (Below.refl _ _) (.cells #[.int .u8 (q : Int), .int .u8 (p : Int)] 5)))
            generalize World.alloc _ (.cells #[.int .u8 (q : Int), .int .u8 (p : Int)] 5) = W8 at *
            have hwk : IntKind.i64.wrap ((k : Int) + 1) = (k : Int) + 1 := IntWalk.i64_in _ (by omega)
            have C3 := Lib.hid (fun u (h : OrdS w u M (.slice none n oc) T (oW T k)) => wl_Create w u M _ (oW T k) (2 * k) h.1 (og T hTL4.out (by omega)) (by omega) (idB k) 0 0 (oC T k) (oq1 T (by omega)).1 (oq1 T (by omega)).2)
            have C4 := Lib.hid (fun u (h : OrdS w u M (.slice none n oc) T (oC T k)) => wl_Pull w u M _ (oC T k) (2 * k + 1) h.1 (ogC T hTL4.out (by omega)) (by omega) (idB k) (idB k) 1 k 0 (wellT T k) (wellT T k) (oW T (k + 1)) (oq2 T (by omega)).1 (oq2 T (by omega)).2.1 (oq2 T (by omega)).2.2.1 (oq2 T (by omega)).2.2.2)
            by_cases hkn : k < n
            · exact absurd hkn (by have := HN0.out; omega)
            · rw [wellT_no (by rw [HTL.out]; omega)] at C4
              have hge : decide ((n : Int) ≤ (k : Int)) = true := decide_eq_true (by omega)
              have hgi : (n : Int) ≤ (k : Int) := by omega
              go_upto_region 14 with (first | (go_at_call 45; (with_reducible refine (C3.out _ HS.out).mono ?_); rintro e wA ⟨rfl, hS_, hK_, hz_⟩; replace HS := Lib.hid (HS.out.call hS_ hK_); clear hS_ hK_ hz_) | (go_at_call 46; (with_reducible refine (C4.out _ HS.out).mono ?_); rintro e wB ⟨rfl, hS_, hK_, hz_⟩; replace HS := Lib.hid (HS.out.call hS_ hK_); clear hS_ hK_ hz_))
              go_wp2
              go_roundw
              case rel => exact ⟨k + 1, by omega, by push_cast; rfl, HS⟩
              case measure => simp [intOf] <;> omega
          · obtain rfl : k = N := by omega
            have hd : decide ((k : Int) < (k : Int)) = false := decide_eq_false (by omega)
            replace HS := Lib.hid (show WL w _ M [] (oW T k) from HS.out.1.sub (fun y hy => by cases hy))
            have C5 := Lib.hid (fun u (h : WL w u M [] (oW T k)) => wl_Waiting w u M [] (oW T k) (2 * k) h (og T hTL4.out (by omega)) (by omega) 0 (show (T.drop k).length = 0 by rw [List.length_drop, HTL.out]; omega))
            have C6 := Lib.hid (fun u (h : WL w u M [] (oW T k)) => wl_Containers w u M [] (oW T k) (2 * k) h (og T hTL4.out (by omega)) (by omega) k (boxL_len T k))
            go_wp2_with (first | (go_at_call 47; (with_reducible refine (C5.out _ HS.out).mono ?_); rintro e wC ⟨aC, cC, rfl, ho_, hr_, hS_, hb_⟩; replace HS := Lib.hid hS_; clear hS_ hb_ ho_ hr_) | (go_at_call 48; (with_reducible refine (C6.out _ HS.out).mono ?_); rintro e wD ⟨aD, cD, rfl, ho_, hr_, hS_, hb_⟩; replace HS := Lib.hid hS_; clear hS_ hb_ ho_ hr_))
            go_ret
            exact ⟨rfl, HS.out.below⟩
      · have e8 : oa = some ⟨g, 0, none⟩ := by injection e9
        subst e8
        clear e9
        obtain ⟨N, hN⟩ : ∃ N, n + e = N := ⟨_, rfl⟩
        have hNi : (n : Int) + (e : Int) = (N : Int) := by omega
        have hwN : IntKind.i64.wrap (N : Int) = (N : Int) := IntWalk.i64_in _ (by omega)
        have hN9 : N ≤ 207 := by omega
        have hTL4 := Lib.hid (show T.length ≤ 4096 by rw [HTL.out]; omega)
        clear hw
        go_wp2
        clear hNi hwN he2 hw8 hw6 hm0 hm9
        go_loopw [10] (fun iv wr => ∃ k : Nat, k ≤ N ∧ iv = .int .i64 k ∧ Hid (OrdS w wr M (.slice (some ⟨g, 0, none⟩) n oc) T (oW T k))) (fun iv _ => N - (intOf iv).toNat)
        case atStart => exact ⟨0, Nat.zero_le _, rfl, HS⟩
        case round =>
          clear HS
          obtain ⟨k, hk, rfl, HS⟩ := hrel
          by_cases hlt : k < N
          · have hd : decide ((k : Int) < (N : Int)) = true := decide_eq_true (by omega)
            have hdi : (k : Int) < (N : Int) := by omega
            have hcv := idB_conv k (by omega)
            obtain ⟨q, hq⟩ : ∃ q, k / 100 = q := ⟨_, rfl⟩
            obtain ⟨p, hp⟩ : ∃ p, k % 100 = p := ⟨_, rfl⟩
            rw [hq, hp] at hcv
            have hqd : Int.tdiv (k : Int) 100 = (q : Int) := by rw [Int.tdiv_eq_ediv_of_nonneg (by omega)]; omega
            have hpd : Int.tmod (k : Int) 100 = (p : Int) := by rw [Int.tmod_eq_emod_of_nonneg (by omega)]; omega
            have hq3 : q ≤ 2 := by omega
            have hp3 : p ≤ 99 := by omega
            have h8q : IntKind.u8.wrap (q : Int) = (q : Int) := IntWalk.u8_in _ (by omega)
            have h6q : IntKind.i64.wrap (q : Int) = (q : Int) := IntWalk.i64_in _ (by omega)
            have h8p : IntKind.u8.wrap (p : Int) = (p : Int) := IntWalk.u8_in _ (by omega)
            have h6p : IntKind.i64.wrap (p : Int) = (p : Int) := IntWalk.i64_in _ (by omega)
            clear hq hp
            go_upto_region 12 with fail
            clear hcv hqd hpd h8q h6q h8p h6p hdi
            replace HS := Lib.hid (HS.out.later (belAlloc (Below.refl _ _) (.cells #[.int .u8 (q : Int), .int .u8 (p : Int)] 5)))
            generalize World.alloc _ (.cells #[.int .u8 (q : Int), .int .u8 (p : Int)] 5) = W8 at *
            have hwk : IntKind.i64.wrap ((k : Int) + 1) = (k : Int) + 1 := IntWalk.i64_in _ (by omega)
            have C3 := Lib.hid (fun u (h : OrdS w u M (.slice (some ⟨g, 0, none⟩) n oc) T (oW T k)) => wl_Create w u M _ (oW T k) (2 * k) h.1 (og T hTL4.out (by omega)) (by omega) (idB k) 0 0 (oC T k) (oq1 T (by omega)).1 (oq1 T (by omega)).2)
            have C4 := Lib.hid (fun u (h : OrdS w u M (.slice (some ⟨g, 0, none⟩) n oc) T (oC T k)) => wl_Pull w u M _ (oC T k) (2 * k + 1) h.1 (ogC T hTL4.out (by omega)) (by omega) (idB k) (idB k) 1 k 0 (wellT T k) (wellT T k) (oW T (k + 1)) (oq2 T (by omega)).1 (oq2 T (by omega)).2.1 (oq2 T (by omega)).2.2.1 (oq2 T (by omega)).2.2.2)
            by_cases hkn : k < n
            · obtain ⟨b, hb⟩ : ∃ b, T[k]? = some b := ⟨T[k]'(by rw [HTL.out]; exact hkn), List.getElem?_eq_getElem _⟩
              rw [wellT_at hb] at C4
              have HBK := Lib.hid hb
              clear hb
              have hge : decide ((n : Int) ≤ (k : Int)) = false := decide_eq_false (by omega)
              have hgi : ¬ (n : Int) ≤ (k : Int) := by omega
              have hki : (k : Int) < (n : Int) := by omega
              have hk0 : (0 : Int) ≤ (k : Int) := by omega
              cases b with
              | false =>
                go_upto_region 14 with (first | (go_at_call 45; (with_reducible refine (C3.out _ HS.out).mono ?_); rintro e wA ⟨rfl, hS_, hK_, hz_⟩; replace HS := Lib.hid (HS.out.call hS_ hK_); clear hS_ hK_ hz_) | (go_at_call 46; (with_reducible refine (C4.out _ HS.out).mono ?_); rintro e wB ⟨rfl, hS_, hK_, hz_⟩; replace HS := Lib.hid (HS.out.call hS_ hK_); clear hS_ hK_ hz_))
                have c0 := OrdS.cell HS.out HBK.out
                rw [Nat.zero_add] at c0
                go_wp2
                go_roundw
                case rel => exact ⟨k + 1, by omega, by push_cast; rfl, HS⟩
                case measure => simp [intOf] <;> omega
              | true =>
                go_upto_region 14 with (first | (go_at_call 45; (with_reducible refine (C3.out _ HS.out).mono ?_); rintro e wA ⟨rfl, hS_, hK_, hz_⟩; replace HS := Lib.hid (HS.out.call hS_ hK_); clear hS_ hK_ hz_) | (go_at_call 46; (with_reducible refine (C4.out _ HS.out).mono ?_); rintro e wB ⟨rfl, hS_, hK_, hz_⟩; replace HS := Lib.hid (HS.out.call hS_ hK_); clear hS_ hK_ hz_))
                have c0 := OrdS.cell HS.out HBK.out
                rw [Nat.zero_add] at c0
                go_wp2
                go_roundw
                case rel => exact ⟨k + 1, by omega, by push_cast; rfl, HS⟩
                case measure => simp [intOf] <;> omega
            · rw [wellT_no (by rw [HTL.out]; omega)] at C4
              have hge : decide ((n : Int) ≤ (k : Int)) = true := decide_eq_true (by omega)
              have hgi : (n : Int) ≤ (k : Int) := by omega
              go_upto_region 14 with (first | (go_at_call 45; (with_reducible refine (C3.out _ HS.out).mono ?_); rintro e wA ⟨rfl, hS_, hK_, hz_⟩; replace HS := Lib.hid (HS.out.call hS_ hK_); clear hS_ hK_ hz_) | (go_at_call 46; (with_reducible refine (C4.out _ HS.out).mono ?_); rintro e wB ⟨rfl, hS_, hK_, hz_⟩; replace HS := Lib.hid (HS.out.call hS_ hK_); clear hS_ hK_ hz_))
              go_wp2
              go_roundw
              case rel => exact ⟨k + 1, by omega, by push_cast; rfl, HS⟩
              case measure => simp [intOf] <;> omega
          · obtain rfl : k = N := by omega
            have hd : decide ((k : Int) < (k : Int)) = false := decide_eq_false (by omega)
            replace HS := Lib.hid (show WL w _ M [] (oW T k) from HS.out.1.sub (fun y hy => by cases hy))
            have C5 := Lib.hid (fun u (h : WL w u M [] (oW T k)) => wl_Waiting w u M [] (oW T k) (2 * k) h (og T hTL4.out (by omega)) (by omega) 0 (show (T.drop k).length = 0 by rw [List.length_drop, HTL.out]; omega))
            have C6 := Lib.hid (fun u (h : WL w u M [] (oW T k)) => wl_Containers w u M [] (oW T k) (2 * k) h (og T hTL4.out (by omega)) (by omega) k (boxL_len T k))
            go_wp2_with (first | (go_at_call 47; (with_reducible refine (C5.out _ HS.out).mono ?_); rintro e wC ⟨aC, cC, rfl, ho_, hr_, hS_, hb_⟩; replace HS := Lib.hid hS_; clear hS_ hb_ ho_ hr_) | (go_at_call 48; (with_reducible refine (C6.out _ HS.out).mono ?_); rintro e wD ⟨aD, cD, rfl, ho_, hr_, hS_, hb_⟩; replace HS := Lib.hid hS_; clear hS_ hb_ ho_ hr_))
            go_ret
            exact ⟨rfl, HS.out.below⟩

set_option maxRecDepth 100000 in
theorem lifted (os : Os) (started : os.Started) (H : Type) (enc : TypeId × Value → H) :
    ReturnsInHanded {} Try.checked os 12 .any (Rows.worldOrderSpec.pre6 enc Try.prog Try.f12 Rows.worldOrderRow.domain false) (Rows.worldOrderSpec.post enc Try.prog Try.f12 false true false false) := by
  refine returnsInHanded_of_change (C := Try.checked) own started (by kernel_rfl) Try.func12
    (ChangeSpec.witness6 (enc := enc) (C := Try.checked) false ⟨#[], #[.slice none 0 0, .slice none 0 0, .int .u8 0], []⟩ 8 (by kernel_rfl) (by kernel_rfl) (by kernel_rfl) (by kernel_rfl)) ?_
  intro W base args ds gs before hval0 hW hcnd _
  have hval : ∀ (j : Nat) t v, Try.f12.params[j]? = some t → args[j]? = some v → Value.okWide Try.prog W .any base t v := hval0
  have hW' := hW
  obtain ⟨p, q, hA0, hV, rfl, hfz, hnd⟩ := hW
  have hA : DataW.TrodAll enc Try.prog W 0 (fun _ => true) true Try.f12.params.toList args.toList ds p := hA0
  rw [Try.params12] at hA hval
  obtain ⟨v0, vs0, d0, ds0, p0, q0, hargs, rfl, rfl, h0, r0⟩ := trodAll_cons hA
  obtain ⟨v1, vs1, d1, ds1, p1, q1, rfl, rfl, rfl, h1, r1⟩ := trodAll_cons r0
  obtain ⟨v2, vs2, d2, ds2, p2, q2, rfl, rfl, rfl, h2, r2⟩ := trodAll_cons r1
  obtain ⟨rfl, rfl, rfl⟩ := trodAll_nil r2
  obtain rfl : args = #[v0, v1, v2] := by cases args; simp_all
  obtain ⟨rfl, rfl⟩ := trodVars_none hV
  have k0 := h0
  have lt0 : ∀ x ∈ p0, x.block < W.heap.size := by obtain ⟨m, hm⟩ := k0; exact DataW.trod_lt m _ _ _ hm
  have o0 : Value.okWide Try.prog W .any base 40 v0 := hval 0 40 v0 rfl rfl
  obtain ⟨a0, len0, cap0, rfl⟩ := okWide_slice Try.underlying40 o0
  obtain ⟨z0, w0⟩ : ∃ zs, Bools W a0 len0 cap0 zs := bools_of_trod Try.underlying40 Try.underlying4 (by kernel_rfl) h0
  have k1 := h1
  have lt1 : ∀ x ∈ p1, x.block < W.heap.size := by obtain ⟨m, hm⟩ := k1; exact DataW.trod_lt m _ _ _ hm
  have o1 : Value.okWide Try.prog W .any base 40 v1 := hval 1 40 v1 rfl rfl
  obtain ⟨a1, len1, cap1, rfl⟩ := okWide_slice Try.underlying40 o1
  obtain ⟨z1, w1⟩ : ∃ zs, Bools W a1 len1 cap1 zs := bools_of_trod Try.underlying40 Try.underlying4 (by kernel_rfl) h1
  have k2 := h2
  have lt2 : ∀ x ∈ p2, x.block < W.heap.size := by obtain ⟨m, hm⟩ := k2; exact DataW.trod_lt m _ _ _ hm
  have o2 : Value.okWide Try.prog W .any base 5 v2 := hval 2 5 v2 rfl rfl
  obtain ⟨a2, rfl, rfl, rfl, w2⟩ := open_int Try.underlying5 o2 h2
  clear hA0 hval0
  refine (walk a0 len0 cap0 z0 a1 len1 cap1 z1 a2 W w0 w1 (in8_of_wf w2)).mono fun e W' ⟨he, bel⟩ => ?_
  subst he
  exact ⟨_, rfl, _, _, _, [], _, [], hW', trodAll_mk1 (shut_bool Try.underlying4 _), (trodAll_cons_mk (Below.trod laidOut (by kernel_rfl) (of_decide_eq_true (by kernel_rfl)) k0 bel lt0) (trodAll_cons_mk (Below.trod laidOut (by kernel_rfl) (of_decide_eq_true (by kernel_rfl)) k1 bel lt1) (trodAll_cons_mk (Below.trod laidOut (by kernel_rfl) (of_decide_eq_true (by kernel_rfl)) k2 bel lt2) trodAll_mk0))), rfl, bel.frame _, fun h => by cases h⟩

theorem over : Rows.worldOrderRow.holds Try.pinned (OpenSpec.ofChange Rows.worldOrderSpec) :=
  OpenClaim.holds_of_wide 12 Try.f12 rfl rfl rfl rfl rfl rfl rfl ⟨rfl, rfl, rfl, rfl, rfl⟩ rfl rfl rfl rfl rfl (by kernel_rfl) Try.func12 (by kernel_rfl)
    (of_decide_eq_true (by kernel_rfl)) (by unfold Func.isWrapper; first | (rw [if_pos (by decide +kernel)]; kernel_rfl) | (rw [if_neg (by decide +kernel)]; exact ⟨rfl, rfl⟩))
    (fun os started H enc _ => lifted os started H enc)

/-- The statement. -/
theorem proved : Rows.WorldOrderSaid := over
#print axioms proved

end Go.Proofs.Ytampkolkbjmmkaa.worldOrder
