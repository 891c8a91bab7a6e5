
/- Stage 7: a right config's text is read as it was; its lines turned round, one left out, one twice, one that is none: plain laws. -/
import Derived.Test.YtcaenbobfneejaaDoorCfSame
import Derived.Test.YtcaenbobfneejaaDoorThrBackM
import Derived.Test.YtcaenbobfneejaaDoorLexTM
import Derived.Test.YtcaenbobfneejaaDoorCfRead
import Derived.Test.YtcaenbobfneejaaDoorLexCard
import Derived.Lib.ConvBytes
namespace Go.Proofs.YtcaenbobfneejaaDoor
open Go.RowKit
open Go.Lib (decDigits)
set_option linter.unusedVariables false
set_option linter.unusedSimpArgs false
def plainB (c : UInt8) : Bool := decide (33 ≤ c.toNat) && decide (c.toNat ≤ 126) && decide (c ≠ 35)
theorem plain_ok (c : UInt8) (h : plainB c = true) : blankB c = false ∧ okB c = true ∧ c ≠ 10 ∧ c ≠ 35 := by
  have hall : ∀ n ∈ List.range 256, plainB (UInt8.ofNat n) = true → (blankB (UInt8.ofNat n) = false ∧ okB (UInt8.ofNat n) = true ∧ UInt8.ofNat n ≠ 10 ∧ UInt8.ofNat n ≠ 35) := by decide +kernel
  have := hall c.toNat (List.mem_range.2 c.toNat_lt)
  rw [UInt8.ofNat_toNat] at this
  exact this h
theorem dg_plain (c : UInt8) (h : isDg c = true) : plainB c = true := by
  have hall : ∀ n ∈ List.range 256, isDg (UInt8.ofNat n) = true → plainB (UInt8.ofNat n) = true := by decide +kernel
  have := hall c.toNat (List.mem_range.2 c.toNat_lt)
  rw [UInt8.ofNat_toNat] at this
  exact this h
theorem word_plain {l : List UInt8} (h : l ≠ []) (hp : ∀ c ∈ l, plainB c = true) : wordOk l := by
  refine ⟨h, fun c hc => ⟨(plain_ok c (hp c hc)).1, (plain_ok c (hp c hc)).2.1, (plain_ok c (hp c hc)).2.2.1⟩, fun e => ?_⟩
  cases l with
  | nil => exact h rfl
  | cons c r =>
    simp only [List.head?_cons, Option.some.injEq] at e
    exact (plain_ok c (hp c (List.mem_cons_self ..))).2.2.2 e
theorem dd_plain (u : Nat) : ∀ c ∈ decDigits u, plainB c = true := fun c hc => dg_plain c (dd_dg u c hc)
theorem nm_plain (k : Nat) (h : k < 8) : ∀ c ∈ nmL k, plainB c = true := by
  have hall : ∀ k ∈ List.range 8, ∀ c ∈ nmL k, plainB c = true := by decide +kernel
  exact hall k (List.mem_range.2 h)
theorem toL (s : ByteArray) : s.data.toList = s.toList := by rw [ByteArray.toList_eq]
theorem pr_plain (n : Int) (h : InI n) : (∀ c ∈ (prAll n).toList, plainB c = true) ∧ (prAll n).toList ≠ [] := by
  by_cases g : 1 ≤ n
  · obtain ⟨u, r, e1, e2, _⟩ := pr_parts6 n h.2 g
    rw [e1]
    refine ⟨fun c hc => ?_, fun e => ?_⟩
    · rcases List.mem_append.1 hc with p | p
      · exact dd_plain u c p
      · rcases e2 with rfl | ⟨k, hk, rfl⟩
        · cases p
        · exact nm_plain k hk c p
    · have := dd_pos u
      rw [List.append_eq_nil_iff] at e
      rw [e.1] at this
      simp at this
  · unfold prAll
    rw [if_pos (by omega)]
    exact ⟨by decide +kernel, by decide +kernel⟩
theorem pr_backC (n : Int) (h : InI n) (h0 : 0 ≤ n) : qOk (prAll n).toList = true ∧ qNum (prAll n).toList = n := by
  by_cases g : 1 ≤ n
  · exact pr_read n h.2 g
  · obtain rfl : n = 0 := by omega
    exact ⟨by kernel_rfl, by kernel_rfl⟩
theorem thr_plain {t : ThrV} (h : t.right = true) (ha : InI t.amt) : (∀ c ∈ (prThr t).toList, plainB c = true) ∧ (prThr t).toList ≠ [] := by
  obtain ⟨h1, _, h3⟩ := right_parts h
  obtain ⟨k, hk, hk3⟩ : ∃ k : Nat, t.sig = (k : Int) ∧ k < 3 := ⟨t.sig.toNat, by omega, by omega⟩
  rw [prThr_list, hk]
  have hw : ∀ c ∈ (wB (k : Int)).toList, plainB c = true := by
    have hall : ∀ k ∈ List.range 3, ∀ c ∈ (wB ((k : Nat) : Int)).toList, plainB c = true := by decide +kernel
    exact hall k (List.mem_range.2 hk3)
  refine ⟨fun c hc => ?_, fun e => ?_⟩
  · rcases List.mem_append.1 hc with p | p
    · exact hw c p
    · rcases List.mem_cons.1 p with rfl | p
      · decide +kernel
      · rcases List.mem_append.1 p with p | p
        · unfold midL at p
          split at p
          · rcases List.mem_append.1 p with p | p
            · exact dd_plain _ c p
            · simp at p; subst p; decide +kernel
          · exact (pr_plain t.amt ha).1 c p
        · unfold endL at p
          split at p
          · rcases List.mem_cons.1 p with rfl | p
            · decide +kernel
            · exact dd_plain _ c p
          · cases p
  · rw [List.append_eq_nil_iff] at e
    exact absurd e.2 (by simp)
theorem kw_plain (j : Nat) : (∀ c ∈ kwL j, plainB c = true) ∧ kwL j ≠ [] := by
  unfold kwL
  split <;> exact ⟨by decide +kernel, by decide⟩
theorem row_ok (j : Nat) (ns : List Int) (h : ∀ n ∈ ns, InI n) : rowL j ns ≠ [] ∧ ∀ f ∈ rowL j ns, wordOk f.text := by
  unfold rowL
  refine ⟨by simp, fun f hf => ?_⟩
  rcases List.mem_cons.1 hf with rfl | hf
  · exact word_plain (kw_plain j).2 (kw_plain j).1
  · obtain ⟨n, hn, rfl⟩ := List.mem_map.1 hf
    show wordOk (prAll n).data.toList
    rw [toL]
    exact word_plain (pr_plain n (h n hn)).2 (pr_plain n (h n hn)).1
theorem thr_ok7 {t : ThrV} (h : t.right = true) (ha : InI t.amt) : thrL t ≠ [] ∧ ∀ f ∈ thrL t, wordOk f.text := by
  unfold thrL
  refine ⟨by simp, fun f hf => ?_⟩
  simp only [List.mem_cons, List.not_mem_nil, or_false] at hf
  rcases hf with rfl | rfl
  · exact word_plain (by decide) (by decide +kernel)
  · show wordOk (prThr t).data.toList
    rw [toL]
    exact word_plain (thr_plain h ha).2 (thr_plain h ha).1
theorem print_ok (c : CfM) (h : c.ok) (hT : ∀ t ∈ c.T, t.right = true) : FieldsOk (printC c) := by
  intro F hF
  unfold printC at hF
  obtain ⟨k1, k2, k3⟩ := h.ck
  obtain ⟨a1, a2, a3⟩ := h.ca
  obtain ⟨p1, p2, p3, p4⟩ := h.cp
  simp only [List.mem_append, List.mem_cons, List.not_mem_nil, or_false, List.mem_map] at hF
  rcases hF with ((rfl | rfl) | ⟨t, ht, rfl⟩) | (rfl | rfl | rfl | rfl)
  · exact row_ok 0 _ (by intro n hn; simp at hn; rcases hn with rfl | rfl | rfl <;> assumption)
  · exact row_ok 1 _ (by intro n hn; simp at hn; rcases hn with rfl | rfl | rfl <;> assumption)
  · exact thr_ok7 (hT t ht) (h.thr t ht).2.2.1
  · exact row_ok 2 _ (by intro n hn; simp at hn; subst hn; assumption)
  · exact row_ok 3 _ (by intro n hn; simp at hn; subst hn; assumption)
  · exact row_ok 4 _ (by intro n hn; simp at hn; subst hn; assumption)
  · exact row_ok 5 _ (by intro n hn; simp at hn; subst hn; assumption)
/-- A line is read by its texts alone. -/
theorem lineR_text {F G : List FldV} (h : F.map FldV.text = G.map FldV.text) (s : CSt) : lineR s F = lineR s G := by
  cases F with
  | nil =>
    cases G with
    | nil => rfl
    | cons g r => simp at h
  | cons f r =>
    cases G with
    | nil => simp at h
    | cons g q =>
      simp only [List.map_cons, List.cons.injEq] at h
      obtain ⟨h1, h2⟩ := h
      have hl : r.length = q.length := by have := congrArg List.length h2; simpa using this
      have hn : numsF r = numsF q := by unfold numsF; rw [show r.map (fun g => qNum g.text) = (r.map FldV.text).map qNum from by rw [List.map_map]; rfl, h2, show q.map (fun g => qNum g.text) = (q.map FldV.text).map qNum from by rw [List.map_map]; rfl]
      have ho : numsOk r = numsOk q := by unfold numsOk; rw [show r.all (fun g => qOk g.text) = (r.map FldV.text).all qOk from by rw [List.all_map]; rfl, h2, show q.all (fun g => qOk g.text) = (q.map FldV.text).all qOk from by rw [List.all_map]; rfl]
      unfold lineR
      dsimp only
      rw [h1, hl, hn, ho]
      cases r with
      | nil =>
        cases q with
        | nil => rfl
        | cons y l => simp at hl
      | cons x l =>
        cases q with
        | nil => simp at hl
        | cons y m =>
          cases l with
          | nil =>
            cases m with
            | nil =>
              simp only [List.map_cons, List.map_nil, List.cons.injEq, and_true] at h2
              simp only [h2]
            | cons _ _ => simp at hl
          | cons _ _ =>
            cases m with
            | nil => simp at hl
            | cons _ _ => rfl
theorem linesR_app (A B : List (List FldV)) : ∀ s, linesR s (A ++ B) = match linesR s A with | .ok s' => linesR s' B | .error e => .error e := by
  induction A with
  | nil => intro s; rfl
  | cons F A ih =>
    intro s
    rw [List.cons_append, linesR, linesR]
    cases lineR s F with
    | ok s' => exact ih s'
    | error e => rfl
theorem linesR_text : ∀ {LL MM : List (List FldV)} {s s' : CSt}, MM.map (List.map FldV.text) = LL.map (List.map FldV.text) → linesR s LL = .ok s' → linesR s MM = .ok s'
  | [], [], s, s', _, h => h
  | [], _ :: _, s, s', h, _ => by simp at h
  | _ :: _, [], s, s', h, _ => by simp at h
  | F :: LL, G :: MM, s, s', h, hr => by
    simp only [List.map_cons, List.cons.injEq] at h
    rw [linesR] at hr ⊢
    rw [lineR_text h.1]
    cases e : lineR s F with
    | ok s2 =>
      rw [e] at hr
      exact linesR_text h.2 hr
    | error x => rw [e] at hr; cases hr
theorem nums_row (ns : List Int) (h : ∀ n ∈ ns, InI n ∧ 0 ≤ n) : numsOk (ns.map (fun n => wordV (prAll n).data.toList)) = true ∧ numsF (ns.map (fun n => wordV (prAll n).data.toList)) = ns := by
  unfold numsOk numsF
  induction ns with
  | nil => exact ⟨rfl, rfl⟩
  | cons n r ih =>
    obtain ⟨i1, i2⟩ := ih (fun m hm => h m (List.mem_cons_of_mem _ hm))
    obtain ⟨b1, b2⟩ := pr_backC n (h n (List.mem_cons_self ..)).1 (h n (List.mem_cons_self ..)).2
    rw [← toL] at b1 b2
    refine ⟨?_, ?_⟩
    · rw [List.map_cons, List.all_cons, i1]
      show (qOk (prAll n).data.toList && true) = true
      rw [b1]; rfl
    · rw [List.map_cons, List.map_cons, i2]
      show qNum (prAll n).data.toList :: r = n :: r
      rw [b2]
theorem idx_kwC : ∀ k, k < 6 → idxK (kwL k) = some k ∧ kwL k ≠ tkw := by
  have h : ∀ k ∈ List.range 6, idxK (kwL k) = some k ∧ kwL k ≠ tkw := by decide +kernel
  exact fun k hk => h k (List.mem_range.2 hk)
theorem lineR_row (s : CSt) (k : Nat) (ns : List Int) (hk : k < 6) (hn : ns.length = needN k) (h : ∀ n ∈ ns, InI n ∧ 0 ≤ n) (hU : k ∉ s.U) : lineR s (rowL k ns) = .ok ⟨setF s.c k ns, s.U ++ [k]⟩ := by
  obtain ⟨h1, h2⟩ := idx_kwC k hk
  obtain ⟨h3, h4⟩ := nums_row ns h
  unfold rowL lineR
  dsimp only
  rw [if_neg (show ¬ (wordV (kwL k)).text = tkw from h2)]
  rw [show idxK (wordV (kwL k)).text = some k from h1]
  simp only [h3, h4, List.length_map, hn, hU, ne_eq, not_true_eq_false, Bool.true_eq_false, or_self, if_false]
theorem lineR_thrL (s : CSt) {t : ThrV} (h : t.right = true) (ha : InI t.amt) : lineR s (thrL t) = .ok { s with c := { s.c with T := s.c.T ++ [t] } } := by
  have hr := read_right h ha.2
  rw [← toL] at hr
  unfold thrL lineR
  dsimp only
  rw [if_pos (show (wordV tkw).text = tkw from rfl)]
  simp only [wordV, hr]
theorem linesR_thrs : ∀ (L : List ThrV) (s : CSt), (∀ t ∈ L, t.right = true ∧ InI t.amt) → linesR s (L.map thrL) = .ok { s with c := { s.c with T := s.c.T ++ L } }
  | [], s, _ => by simp [linesR]
  | t :: L, s, h => by
    obtain ⟨h1, h2⟩ := h t (List.mem_cons_self ..)
    rw [List.map_cons, linesR, lineR_thrL s h1 h2]
    simp only
    rw [linesR_thrs L _ (fun u hu => h u (List.mem_cons_of_mem _ hu))]
    simp
theorem read_print (c : CfM) (h : c.ok) (hT : ∀ t ∈ c.T, t.right = true) (h0 : (0 ≤ c.k0 ∧ 0 ≤ c.k1 ∧ 0 ≤ c.k2) ∧ (0 ≤ c.a0 ∧ 0 ≤ c.a1 ∧ 0 ≤ c.a2) ∧ 0 ≤ c.per ∧ 0 ≤ c.ret ∧ 0 ≤ c.age ∧ 0 ≤ c.dead) : linesR CSt.zero (printC c) = .ok ⟨c, [0, 1, 2, 3, 4, 5]⟩ := by
  obtain ⟨⟨z1, z2, z3⟩, ⟨y1, y2, y3⟩, x1, x2, x3, x4⟩ := h0
  obtain ⟨k1, k2, k3⟩ := h.ck
  obtain ⟨a1, a2, a3⟩ := h.ca
  obtain ⟨p1, p2, p3, p4⟩ := h.cp
  unfold printC
  rw [linesR_app, linesR_app]
  rw [linesR, lineR_row CSt.zero 0 _ (by decide) rfl (by intro n hn; simp at hn; rcases hn with rfl | rfl | rfl <;> exact ⟨by assumption, by assumption⟩) (by simp [CSt.zero])]
  simp only
  rw [linesR, lineR_row _ 1 _ (by decide) rfl (by intro n hn; simp at hn; rcases hn with rfl | rfl | rfl <;> exact ⟨by assumption, by assumption⟩) (by simp [CSt.zero])]
  simp only [linesR]
  rw [linesR_thrs c.T _ (fun t ht => ⟨hT t ht, (h.thr t ht).2.2.1⟩)]
  simp only
  rw [lineR_row _ 2 _ (by decide) rfl (by intro n hn; simp at hn; subst hn; exact ⟨by assumption, by assumption⟩) (by simp [CSt.zero])]
  simp only
  rw [lineR_row _ 3 _ (by decide) rfl (by intro n hn; simp at hn; subst hn; exact ⟨by assumption, by assumption⟩) (by simp [CSt.zero])]
  simp only
  rw [lineR_row _ 4 _ (by decide) rfl (by intro n hn; simp at hn; subst hn; exact ⟨by assumption, by assumption⟩) (by simp [CSt.zero])]
  simp only
  rw [lineR_row _ 5 _ (by decide) rfl (by intro n hn; simp at hn; subst hn; exact ⟨by assumption, by assumption⟩) (by simp [CSt.zero])]
  cases c
  rfl
theorem again_text {n : Int} {LL MM : List (List FldV)} (h : Again n LL MM) : MM.map (List.map FldV.text) = LL.map (List.map FldV.text) := by
  obtain ⟨h1, _, h3⟩ := h
  refine List.ext_getElem? (fun i => ?_)
  rw [List.getElem?_map, List.getElem?_map]
  rcases Nat.lt_or_ge i LL.length with l | l
  · obtain ⟨G, e1, e2, _⟩ := h3 i LL[i] (List.getElem?_eq_getElem l)
    rw [e1, List.getElem?_eq_getElem l]
    simp only [Option.map_some, e2]
  · rw [List.getElem?_eq_none l, List.getElem?_eq_none (by omega)]
theorem join_ok (LL : List (List FldV)) (h : FieldsOk LL) (hl : (joinF LL).length ≤ 65536) : readB (joinF LL) = true := by
  rw [readB_eq, Bool.and_eq_true]
  refine ⟨List.all_eq_true.2 (fun c hc => ?_), decide_eq_true hl⟩
  unfold joinF at hc
  obtain ⟨F, hF, hc⟩ := List.mem_flatMap.1 hc
  rcases List.mem_append.1 hc with p | p
  · exact (words_ok true F (h F hF).2 c p).1
  · simp at p; subst p; rfl
theorem right_pos (c : CfM) (h : rightM c = true) : (0 ≤ c.k0 ∧ 0 ≤ c.k1 ∧ 0 ≤ c.k2) ∧ (0 ≤ c.a0 ∧ 0 ≤ c.a1 ∧ 0 ≤ c.a2) ∧ 0 ≤ c.per ∧ 0 ≤ c.ret ∧ 0 ≤ c.age ∧ 0 ≤ c.dead := by
  unfold rightM nodeM numM at h
  simp only [Bool.and_eq_true, decide_eq_true_eq] at h
  omega
theorem text_lenT (c : CfM) (h : c.ok) (h1 : c.T.length ≤ 12) (h2 : ∀ t ∈ c.T, t.right = true) : (joinF (printC c)).length ≤ 20000 := by
  have p1 := headT_len c h
  have p2 := thrT_len c.T (fun t ht => ⟨h2 t ht, (h.thr t ht).2.2.1⟩)
  obtain ⟨q1, q2, q3, q4⟩ := h.cp
  have p3 := rowB_len 2 [c.per] (by intro n hn; simp at hn; subst hn; exact q1)
  have p4 := rowB_len 3 [c.ret] (by intro n hn; simp at hn; subst hn; exact q2)
  have p5 := rowB_len 4 [c.age] (by intro n hn; simp at hn; subst hn; exact q3)
  have p6 := rowB_len 5 [c.dead] (by intro n hn; simp at hn; subst hn; exact q4)
  unfold headT at p1
  rw [textC_is]
  unfold textC
  simp only [List.length_append, List.length_cons, List.length_nil] at p1 p3 p4 p5 p6 ⊢
  omega
/-- P7.3: a right config's text is read as it was. -/
theorem read_back (c : CfM) (h : c.ok) (hr : rightM c = true) : confF (joinF (printC c)) = .ok c := by
  have hT := (right_of c hr).2
  have hok := print_ok c h hT
  unfold confF
  rw [join_ok _ hok (Nat.le_trans (text_len c h hr) (by decide)), linesR_text (again_text (again_fields _ hok)) (read_print c h hT (right_pos c hr))]
  unfold endR
  simp [hr]
/-- Lines told with their numbers. -/
def linesN : Int → CSt → List (List FldV) → Except (Int × Int) CSt
  | _, s, [] => .ok s
  | n, s, F :: LL => match lineR s F with
    | .ok s' => linesN (n + 1) s' LL
    | .error e => .error (n, e)
theorem linesN_of : ∀ (LL MM : List (List FldV)) (n : Int) (s : CSt), MM.length = LL.length → (∀ (i : Nat) (F : List FldV), LL[i]? = some F → ∃ G : List FldV, MM[i]? = some G ∧ G.map FldV.text = F.map FldV.text ∧ ∀ g ∈ G, g.line = n + (i : Int)) → (∀ F ∈ LL, F ≠ []) → linesR s MM = linesN n s LL
  | [], [], n, s, _, _, _ => rfl
  | [], _ :: _, n, s, h, _, _ => by simp at h
  | _ :: _, [], n, s, h, _, _ => by simp at h
  | F :: LL, G :: MM, n, s, h, hi, hne => by
    obtain ⟨G0, e0, t0, l0⟩ := hi 0 F rfl
    simp only [List.getElem?_cons_zero, Option.some.injEq] at e0
    subst e0
    have hF := hne F List.mem_cons_self
    have hh : headLine G = n := by
      cases G with
      | nil => cases F with
        | nil => exact absurd rfl hF
        | cons f r => cases t0
      | cons g r =>
        have := l0 g List.mem_cons_self
        unfold headLine
        simp only [List.head?_cons, Option.map_some, Option.getD_some]
        rw [this]; simp
    rw [linesR, linesN, lineR_text t0]
    cases lineR s F with
    | error e => simp only [hh]
    | ok s' =>
      refine linesN_of LL MM (n + 1) s' (by simpa using h) (fun i X hX => ?_) (fun X hX => hne X (List.mem_cons_of_mem _ hX))
      obtain ⟨Y, y1, y2, y3⟩ := hi (i + 1) X (by rw [List.getElem?_cons_succ]; exact hX)
      exact ⟨Y, by rw [List.getElem?_cons_succ] at y1; exact y1, y2, fun g hg => by rw [y3 g hg]; push_cast; omega⟩
theorem conf_join (LL : List (List FldV)) (h : FieldsOk LL) (hl : (joinF LL).length ≤ 65536) : confF (joinF LL) = match linesN 1 CSt.zero LL with | .error x => .error x | .ok s => endR s := by
  obtain ⟨h1, _, h3⟩ := again_fields LL h
  unfold confF
  rw [join_ok LL h hl, linesN_of LL _ 1 CSt.zero h1 h3 (fun F hF => (h F hF).1)]
  rfl
theorem linesN_app (A B : List (List FldV)) : ∀ n s, linesN n s (A ++ B) = match linesN n s A with | .ok s' => linesN (n + A.length) s' B | .error e => .error e := by
  induction A with
  | nil => intro n s; simp [linesN]
  | cons F A ih =>
    intro n s
    rw [List.cons_append, linesN, linesN]
    cases lineR s F with
    | ok s' =>
      simp only
      rw [ih (n + 1) s', show n + 1 + (A.length : Int) = n + ((F :: A).length : Int) by simp only [List.length_cons]; push_cast; omega]
    | error e => rfl
theorem linesN_ok : ∀ (LL : List (List FldV)) (n : Int) (s s' : CSt), linesR s LL = .ok s' → linesN n s LL = .ok s'
  | [], n, s, s', h => h
  | F :: LL, n, s, s', h => by
    rw [linesR] at h
    rw [linesN]
    cases e : lineR s F with
    | error x => rw [e] at h; cases h
    | ok s2 => rw [e] at h; exact linesN_ok LL (n + 1) s2 s' h
/-- The numbers of a config's line. -/
def nsC (c : CfM) : Nat → List Int
  | 0 => [c.k0, c.k1, c.k2]
  | 1 => [c.a0, c.a1, c.a2]
  | 2 => [c.per]
  | 3 => [c.ret]
  | 4 => [c.age]
  | _ => [c.dead]
def rowC (c : CfM) (k : Nat) : List FldV := rowL k (nsC c k)
theorem printC_rows (c : CfM) : printC c = [0, 1].map (rowC c) ++ c.T.map thrL ++ [2, 3, 4, 5].map (rowC c) := rfl
/-- What may be told of a config ahead. -/
structure CfP (c : CfM) : Prop where
  ok : c.ok
  thr : ∀ t ∈ c.T, t.right = true
  pos : (0 ≤ c.k0 ∧ 0 ≤ c.k1 ∧ 0 ≤ c.k2) ∧ (0 ≤ c.a0 ∧ 0 ≤ c.a1 ∧ 0 ≤ c.a2) ∧ 0 ≤ c.per ∧ 0 ≤ c.ret ∧ 0 ≤ c.age ∧ 0 ≤ c.dead
theorem CfP.of {c : CfM} (h : c.ok) (hr : rightM c = true) : CfP c := ⟨h, (right_of c hr).2, right_pos c hr⟩
theorem CfP.ns {c : CfM} (h : CfP c) (k : Nat) (hk : k < 6) : (nsC c k).length = needN k ∧ ∀ n ∈ nsC c k, InI n ∧ 0 ≤ n := by
  obtain ⟨⟨k1, k2, k3⟩, ⟨a1, a2, a3⟩, ⟨p1, p2, p3, p4⟩, _⟩ := h.ok
  obtain ⟨⟨z1, z2, z3⟩, ⟨y1, y2, y3⟩, x1, x2, x3, x4⟩ := h.pos
  rcases (show k = 0 ∨ k = 1 ∨ k = 2 ∨ k = 3 ∨ k = 4 ∨ k = 5 by omega) with rfl | rfl | rfl | rfl | rfl | rfl
  · exact ⟨rfl, by intro n hn; simp [nsC] at hn; rcases hn with rfl | rfl | rfl <;> exact ⟨by assumption, by assumption⟩⟩
  · exact ⟨rfl, by intro n hn; simp [nsC] at hn; rcases hn with rfl | rfl | rfl <;> exact ⟨by assumption, by assumption⟩⟩
  all_goals exact ⟨rfl, by intro n hn; simp [nsC] at hn; subst hn; exact ⟨by assumption, by assumption⟩⟩
theorem linesR_rows {c : CfM} (h : CfP c) : ∀ (K : List Nat) (s : CSt), K.Nodup → (∀ k ∈ K, k < 6 ∧ k ∉ s.U) → linesR s (K.map (rowC c)) = .ok ⟨K.foldl (fun d k => setF d k (nsC c k)) s.c, s.U ++ K⟩
  | [], s, _, _ => by simp [linesR]
  | k :: K, s, hn, hk => by
    obtain ⟨h1, h2⟩ := hk k List.mem_cons_self
    obtain ⟨n1, n2⟩ := h.ns k h1
    rw [List.nodup_cons] at hn
    rw [List.map_cons, linesR, show rowC c k = rowL k (nsC c k) from rfl, lineR_row s k _ h1 n1 n2 h2]
    simp only
    rw [linesR_rows h K _ hn.2 (fun j hj => ⟨(hk j (List.mem_cons_of_mem _ hj)).1, fun q => (List.mem_append.1 q).elim (hk j (List.mem_cons_of_mem _ hj)).2 (fun r => by simp at r; subst r; exact hn.1 hj)⟩)]
    simp [List.append_assoc]
theorem linesR_thrsP {c : CfM} (h : CfP c) (L : List ThrV) (hL : ∀ t ∈ L, t ∈ c.T) (s : CSt) : linesR s (L.map thrL) = .ok { s with c := { s.c with T := s.c.T ++ L } } := linesR_thrs L s (fun t ht => ⟨h.thr t (hL t ht), (h.ok.thr t (hL t ht)).2.2.1⟩)
theorem row_okC {c : CfM} (h : CfP c) (k : Nat) : rowC c k ≠ [] ∧ ∀ f ∈ rowC c k, wordOk f.text := by
  refine row_ok k _ (fun n hn => ?_)
  obtain ⟨⟨k1, k2, k3⟩, ⟨a1, a2, a3⟩, ⟨p1, p2, p3, p4⟩, _⟩ := h.ok
  unfold nsC at hn
  split at hn <;> simp at hn <;> (try rcases hn with rfl | rfl | rfl) <;> (try subst hn) <;> assumption
theorem thr_okC {c : CfM} (h : CfP c) {t : ThrV} (ht : t ∈ c.T) : thrL t ≠ [] ∧ ∀ f ∈ thrL t, wordOk f.text := thr_ok7 (h.thr t ht) (h.ok.thr t ht).2.2.1
theorem CfP.print {c : CfM} (h : CfP c) : FieldsOk (printC c) := print_ok c h.ok h.thr
/-- The lines turned round: the first goes to the end. -/
def rotC (c : CfM) (n : Nat) : List (List FldV) := (printC c).drop n ++ (printC c).take n
theorem rot_len (c : CfM) (n : Nat) : (joinF (rotC c n)).length = (joinF (printC c)).length := by
  have e := congrArg List.length (joinF_appC ((printC c).take n) ((printC c).drop n))
  rw [List.take_append_drop, List.length_append] at e
  unfold rotC
  rw [joinF_appC, List.length_append]
  omega
theorem rot_ok {c : CfM} (h : CfP c) (n : Nat) : FieldsOk (rotC c n) := fun F hF => h.print F ((List.mem_append.1 hF).elim List.mem_of_mem_drop List.mem_of_mem_take)
theorem rot_read (c : CfM) (h : c.ok) (hr : rightM c = true) (n : Nat) (hn : n = 1 ∨ n = 2) : confF (joinF (rotC c n)) = .ok c := by
  have hp := CfP.of h hr
  rw [conf_join _ (rot_ok hp n) (by rw [rot_len]; exact Nat.le_trans (text_len c h hr) (by decide))]
  rcases hn with rfl | rfl
  · have e : rotC c 1 = [1].map (rowC c) ++ (c.T.map thrL ++ [2, 3, 4, 5, 0].map (rowC c)) := by
      unfold rotC; rw [printC_rows]; simp
    rw [e, linesN_ok _ 1 CSt.zero ⟨c, [1, 2, 3, 4, 5, 0]⟩]
    · simp [endR, hr]
    · rw [linesR_app, linesR_rows hp [1] CSt.zero (by decide) (by simp [CSt.zero])]
      simp only
      rw [linesR_app, linesR_thrsP hp c.T (fun t ht => ht)]
      simp only
      rw [linesR_rows hp [2, 3, 4, 5, 0] _ (by decide) (by simp [CSt.zero])]
      cases c; rfl
  · have e : rotC c 2 = c.T.map thrL ++ [2, 3, 4, 5, 0, 1].map (rowC c) := by
      unfold rotC; rw [printC_rows]; simp
    rw [e, linesN_ok _ 1 CSt.zero ⟨c, [2, 3, 4, 5, 0, 1]⟩]
    · simp [endR, hr]
    · rw [linesR_app, linesR_thrsP hp c.T (fun t ht => ht)]
      simp only
      rw [linesR_rows hp [2, 3, 4, 5, 0, 1] _ (by decide) (by simp [CSt.zero])]
      cases c; rfl
/-- Is line j one of a threshold? -/
def isThr (c : CfM) (j : Nat) : Bool := decide (2 ≤ j) && decide (j < 2 + c.T.length)
theorem thr_right (c : CfM) (T : List ThrV) (h : rightM c = true) (hT : ∀ t ∈ T, t.right = true) (hl : T.length ≤ 12) : rightM { c with T := T } = true := by
  unfold rightM at h ⊢
  simp only [Bool.and_eq_true] at h ⊢
  refine ⟨⟨h.1.1, ?_⟩, h.2⟩
  unfold thrM
  rw [Bool.and_eq_true]
  exact ⟨List.all_eq_true.2 hT, decide_eq_true hl⟩
theorem print_len (c : CfM) : (printC c).length = 6 + c.T.length := by rw [printC_rows]; simp; omega
theorem erase_okF {LL : List (List FldV)} (h : FieldsOk LL) (j : Nat) : FieldsOk (LL.eraseIdx j) := fun F hF => h F (List.mem_of_mem_eraseIdx hF)
theorem join_erase : ∀ (LL : List (List FldV)) (j : Nat), (joinF (LL.eraseIdx j)).length ≤ (joinF LL).length
  | [], j => by simp
  | F :: LL, 0 => by simp [joinF]; omega
  | F :: LL, j + 1 => by
    have := join_erase LL j
    unfold joinF at this ⊢
    simp only [List.eraseIdx_cons_succ, List.flatMap_cons, List.length_append] at this ⊢
    omega
theorem erase_map {α β : Type} (f : α → β) : ∀ (L : List α) (i : Nat), (L.map f).eraseIdx i = (L.eraseIdx i).map f
  | [], i => by simp
  | x :: L, 0 => by simp
  | x :: L, i + 1 => by simp [erase_map f L i]
theorem less_read (c : CfM) (h : c.ok) (hr : rightM c = true) (j : Nat) (hj : j < (printC c).length) : confF (joinF ((printC c).eraseIdx j)) = if isThr c j = true then .ok { c with T := c.T.eraseIdx (j - 2) } else .error (0, 4) := by
  have hp := CfP.of h hr
  obtain ⟨hl, hT⟩ := right_of c hr
  rw [print_len] at hj
  rw [conf_join _ (erase_okF hp.print j) (Nat.le_trans (join_erase _ _) (Nat.le_trans (text_len c h hr) (by decide)))]
  have hrows : ∀ K1 K2 : List Nat, (K1 ++ K2).Nodup → (∀ k ∈ K1 ++ K2, k < 6) → (K1 ++ K2).length = 5 → (match linesN 1 CSt.zero (K1.map (rowC c) ++ (c.T.map thrL ++ K2.map (rowC c))) with | .error x => .error x | .ok s => endR s) = (.error (0, 4) : Except (Int × Int) CfM) := by
    intro K1 K2 hn h6 h5
    rw [linesN_ok _ 1 CSt.zero ⟨K2.foldl (fun d k => setF d k (nsC c k)) { K1.foldl (fun d k => setF d k (nsC c k)) CfM.zero with T := (K1.foldl (fun d k => setF d k (nsC c k)) CfM.zero).T ++ c.T }, K1 ++ K2⟩]
    · simp only
      unfold endR
      rw [if_pos (by rw [h5]; decide)]
    · rw [linesR_app, linesR_rows hp K1 CSt.zero (List.nodup_append.1 hn).1 (fun k hk => ⟨h6 k (List.mem_append_left _ hk), by simp [CSt.zero]⟩)]
      simp only
      rw [linesR_app, linesR_thrsP hp c.T (fun t ht => ht)]
      simp only
      rw [linesR_rows hp K2 _ (List.nodup_append.1 hn).2.1 (fun k hk => ⟨h6 k (List.mem_append_right _ hk), fun q => by simp [CSt.zero] at q; exact (List.nodup_append.1 hn).2.2 k q k hk rfl⟩)]
      simp [CSt.zero]
  unfold isThr
  rw [printC_rows, List.append_assoc]
  rcases (show j = 0 ∨ j = 1 ∨ (2 ≤ j ∧ j < 2 + c.T.length) ∨ 2 + c.T.length ≤ j by omega) with rfl | rfl | ⟨q1, q2⟩ | q
  · rw [show ([0, 1].map (rowC c) ++ (c.T.map thrL ++ [2, 3, 4, 5].map (rowC c))).eraseIdx 0 = [1].map (rowC c) ++ (c.T.map thrL ++ [2, 3, 4, 5].map (rowC c)) by simp]
    rw [hrows [1] [2, 3, 4, 5] (by decide) (by decide) (by decide)]
    simp
  · rw [show ([0, 1].map (rowC c) ++ (c.T.map thrL ++ [2, 3, 4, 5].map (rowC c))).eraseIdx 1 = [0].map (rowC c) ++ (c.T.map thrL ++ [2, 3, 4, 5].map (rowC c)) by simp]
    rw [hrows [0] [2, 3, 4, 5] (by decide) (by decide) (by decide)]
    simp
  · obtain ⟨i, rfl⟩ : ∃ i, j = i + 2 := ⟨j - 2, by omega⟩
    have e : ([0, 1].map (rowC c) ++ (c.T.map thrL ++ [2, 3, 4, 5].map (rowC c))).eraseIdx (i + 2) = [0, 1].map (rowC c) ++ ((c.T.eraseIdx i).map thrL ++ [2, 3, 4, 5].map (rowC c)) := by
      simp only [List.map_cons, List.map_nil, List.cons_append, List.nil_append, List.eraseIdx_cons_succ]
      rw [List.eraseIdx_append_of_lt_length (by rw [List.length_map]; omega)]
      simp [erase_map]
    rw [e, linesN_ok _ 1 CSt.zero ⟨{ c with T := c.T.eraseIdx i }, [0, 1, 2, 3, 4, 5]⟩]
    · have hrr := thr_right c (c.T.eraseIdx i) hr (fun t ht => hT t (List.mem_of_mem_eraseIdx ht)) (by have := List.length_eraseIdx_le c.T i; omega)
      simp [endR, hrr, show i < c.T.length by omega]
      omega
    · rw [linesR_app, linesR_rows hp [0, 1] CSt.zero (by decide) (by simp [CSt.zero])]
      simp only
      rw [linesR_app, linesR_thrsP hp (c.T.eraseIdx i) (fun t ht => List.mem_of_mem_eraseIdx ht)]
      simp only
      rw [linesR_rows hp [2, 3, 4, 5] _ (by decide) (by simp [CSt.zero])]
      cases c; rfl
  · obtain ⟨i, rfl⟩ : ∃ i, j = 2 + (c.T.length + i) := ⟨j - 2 - c.T.length, by omega⟩
    have hi : i < 4 := by omega
    have e : ([0, 1].map (rowC c) ++ (c.T.map thrL ++ [2, 3, 4, 5].map (rowC c))).eraseIdx (2 + (c.T.length + i)) = [0, 1].map (rowC c) ++ (c.T.map thrL ++ ([2, 3, 4, 5].eraseIdx i).map (rowC c)) := by
      rw [List.eraseIdx_append_of_length_le (by simp)]
      rw [show 2 + (c.T.length + i) - ([0, 1].map (rowC c)).length = c.T.length + i by simp]
      rw [List.eraseIdx_append_of_length_le (by simp)]
      rw [show c.T.length + i - (c.T.map thrL).length = i by simp]
      rw [erase_map]
    rw [e]
    rcases (show i = 0 ∨ i = 1 ∨ i = 2 ∨ i = 3 by omega) with rfl | rfl | rfl | rfl <;> rw [hrows _ _ (by decide) (by decide) (by decide)] <;> simp
theorem twice_read (c : CfM) (h : c.ok) (hr : rightM c = true) (hT12 : c.T.length ≠ 12) (j : Nat) {F : List FldV} (hF : (printC c)[j]? = some F) : confF (joinF (printC c ++ [F])) = if isThr c j = true then .ok { c with T := c.T ++ [c.T.getD (j - 2) ⟨0, 0, 0, false, 0⟩] } else .error ((printC c).length + 1, 5) := by
  have hp := CfP.of h hr
  obtain ⟨hl, hT⟩ := right_of c hr
  have hm : F ∈ printC c := List.mem_of_getElem? hF
  have hjl : j < (printC c).length := (List.getElem?_eq_some_iff.1 hF).1
  have hlen : (joinF (printC c ++ [F])).length ≤ 65536 := by
    have h1 := text_len c h hr
    have h2 : (joinF [F]).length ≤ (joinF (printC c)).length := by
      obtain ⟨A, B, e⟩ := List.append_of_mem hm
      rw [e, show A ++ F :: B = A ++ ([F] ++ B) from rfl, joinF_appC, joinF_appC, List.length_append, List.length_append]
      omega
    rw [joinF_appC, List.length_append]
    omega
  rw [conf_join _ (fun G hG => (List.mem_append.1 hG).elim (hp.print G) (fun q => by simp at q; subst q; exact hp.print _ hm)) hlen]
  rw [linesN_app, linesN_ok _ 1 CSt.zero _ (read_print c h hp.thr hp.pos)]
  simp only
  rw [print_len] at hjl
  have hrow : ∀ k, k < 6 → lineR ⟨c, [0, 1, 2, 3, 4, 5]⟩ (rowC c k) = .error 5 := by
    intro k hk
    obtain ⟨n1, n2⟩ := hp.ns k hk
    obtain ⟨h1, h2⟩ := idx_kwC k hk
    obtain ⟨h3, h4⟩ := nums_row _ n2
    unfold rowC rowL lineR
    dsimp only
    rw [if_neg (show ¬ (wordV (kwL k)).text = tkw from h2)]
    rw [show idxK (wordV (kwL k)).text = some k from h1]
    have hk2 : k ∈ [0, 1, 2, 3, 4, 5] := by simp; omega
    simp only [h3, List.length_map, n1, hk2, ne_eq, not_true_eq_false, Bool.true_eq_false, or_self, if_false, if_true]
  have hlast : ∀ k, k < 6 → (match linesN (1 + ((printC c).length : Int)) ⟨c, [0, 1, 2, 3, 4, 5]⟩ [rowC c k] with | .error x => .error x | .ok s => endR s) = (.error ((printC c).length + 1, 5) : Except (Int × Int) CfM) := by
    intro k hk
    rw [linesN, hrow k hk]
    simp only
    rw [Int.add_comm]
  unfold isThr
  rw [printC_rows, List.append_assoc] at hF
  rcases (show j = 0 ∨ j = 1 ∨ (2 ≤ j ∧ j < 2 + c.T.length) ∨ 2 + c.T.length ≤ j by omega) with rfl | rfl | ⟨q1, q2⟩ | q
  · simp only [List.map_cons, List.cons_append, List.getElem?_cons_zero, Option.some.injEq] at hF
    subst hF
    rw [hlast 0 (by decide)]; simp
  · simp only [List.map_cons, List.cons_append, List.getElem?_cons_succ, List.getElem?_cons_zero, Option.some.injEq] at hF
    subst hF
    rw [hlast 1 (by decide)]; simp
  · obtain ⟨i, rfl⟩ : ∃ i, j = i + 2 := ⟨j - 2, by omega⟩
    have hi : i < c.T.length := by omega
    simp only [List.map_cons, List.map_nil, List.cons_append, List.nil_append, List.getElem?_cons_succ] at hF
    rw [List.getElem?_append_left (by rw [List.length_map]; exact hi), List.getElem?_map, List.getElem?_eq_getElem hi] at hF
    simp only [Option.map_some, Option.some.injEq] at hF
    subst hF
    have hmem : c.T[i] ∈ c.T := List.getElem_mem hi
    rw [linesN, lineR_thrL _ (hT _ hmem) (h.thr _ hmem).2.2.1]
    have hrr := thr_right c (c.T ++ [c.T[i]]) hr (fun t ht => (List.mem_append.1 ht).elim (hT t) (fun q => by simp at q; subst q; exact hT _ hmem)) (by simp; omega)
    have hg : c.T.getD i ⟨0, 0, 0, false, 0⟩ = c.T[i] := by rw [List.getD_eq_getElem?_getD, List.getElem?_eq_getElem hi]; rfl
    simp [linesN, endR, hrr, hg, hi]
    omega
  · obtain ⟨i, rfl⟩ : ∃ i, j = 2 + (c.T.length + i) := ⟨j - 2 - c.T.length, by omega⟩
    have hi : i < 4 := by omega
    rw [List.getElem?_append_right (by simp), show 2 + (c.T.length + i) - ([0, 1].map (rowC c)).length = c.T.length + i by simp, List.getElem?_append_right (by simp), show c.T.length + i - (c.T.map thrL).length = i by simp] at hF
    rcases (show i = 0 ∨ i = 1 ∨ i = 2 ∨ i = 3 by omega) with rfl | rfl | rfl | rfl <;> simp at hF <;> subst hF
    · rw [hlast 2 (by decide)]; simp
    · rw [hlast 3 (by decide)]; simp
    · rw [hlast 4 (by decide)]; simp
    · rw [hlast 5 (by decide)]; simp
/-- A line that is none, behind m right ones. -/
theorem wrong_read (c : CfM) (h : c.ok) (hr : rightM c = true) (m : Nat) (hm : m ≤ (printC c).length) (F : List FldV) (hF : F ≠ [] ∧ ∀ f ∈ F, wordOk f.text) (hl : (joinF [F]).length ≤ 1000) (he : ∀ s, lineR s F = .error 2) : confF (joinF ((printC c).take m ++ (F :: (printC c).drop m))) = .error ((m : Int) + 1, 2) := by
  have hp := CfP.of h hr
  have hlen : (joinF ((printC c).take m ++ (F :: (printC c).drop m))).length ≤ 65536 := by
    have h1 := text_len c h hr
    have e := congrArg List.length (joinF_appC ((printC c).take m) ((printC c).drop m))
    rw [List.take_append_drop, List.length_append] at e
    rw [show (printC c).take m ++ (F :: (printC c).drop m) = (printC c).take m ++ ([F] ++ (printC c).drop m) from rfl, joinF_appC, joinF_appC, List.length_append, List.length_append]
    omega
  rw [conf_join _ (fun G hG => (List.mem_append.1 hG).elim (fun q => hp.print G (List.mem_of_mem_take q)) (fun q => (List.mem_cons.1 q).elim (fun r => by subst r; exact hF) (fun r => hp.print G (List.mem_of_mem_drop r)))) hlen]
  have hall := read_print c h hp.thr hp.pos
  rw [← List.take_append_drop m (printC c), linesR_app] at hall
  cases e : linesR CSt.zero ((printC c).take m) with
  | error x => rw [e] at hall; cases hall
  | ok s =>
    rw [linesN_app, linesN_ok _ 1 CSt.zero s e]
    simp only
    rw [linesN, he s, List.length_take, Nat.min_eq_left hm]
    simp only
    rw [Int.add_comm]
theorem none_read (c : CfM) (h : c.ok) (hr : rightM c = true) : confF (joinF (printC { c with k0 := 0, a1 := 0 })) = .error (0, 1) := by
  have hp := CfP.of h hr
  have hp2 : CfP { c with k0 := 0, a1 := 0 } := ⟨⟨⟨zero_in, h.ck.2.1, h.ck.2.2⟩, ⟨h.ca.1, zero_in, h.ca.2.2⟩, h.cp, h.thr⟩, hp.thr, ⟨⟨Int.le_refl _, hp.pos.1.2.1, hp.pos.1.2.2⟩, ⟨hp.pos.2.1.1, Int.le_refl _, hp.pos.2.1.2.2⟩, hp.pos.2.2⟩⟩
  have hl : (joinF (printC { c with k0 := 0, a1 := 0 })).length ≤ 65536 := Nat.le_trans (text_lenT _ hp2.ok (right_of c hr).1 hp.thr) (by decide)
  rw [conf_join _ hp2.print hl, linesN_ok _ 1 CSt.zero _ (read_print _ hp2.ok hp2.thr hp2.pos)]
  simp only
  have hno : rightM { c with k0 := 0, a1 := 0 } = false := by
    unfold rightM nodeM
    simp
  unfold endR
  rw [if_neg (by simp), if_pos hno]
/-- The row of a conversion to bytes. -/
def Brow (w : World) (g n : Nat) : Prop := ∃ cur : Array Value, w.heap[g]? = some (.cells cur 5 (cur.size, cur.size + 1)) ∧ n ≤ cur.size
theorem Brow.lt {w : World} {g n : Nat} (h : Brow w g n) : g < w.heap.size := by
  obtain ⟨cur, h1, _⟩ := h
  exact (Array.getElem?_eq_some_iff.1 h1).1
theorem Brow.later {w w' : World} {g n : Nat} (h : Brow w g n) (hb : Below w.heap.size w w') : Brow w' g n := by
  have hl := h.lt
  obtain ⟨cur, h1, h2⟩ := h
  exact ⟨cur, (hb.block g hl).trans h1, h2⟩
theorem Brow.cell {w : World} {g n i : Nat} (h : Brow w g n) (hi : i < n) : ∃ v, w.cell? ⟨g, i, none⟩ = some v := by
  obtain ⟨cur, h1, h2⟩ := h
  refine ⟨cur[i]'(by omega), ?_⟩
  simp [World.cell?, h1, show i < cur.size by omega]
theorem Brow.frozen {w : World} {g n i : Nat} (h : Brow w g n) (hi : i < n) : w.frozen? ⟨g, i, none⟩ = false := by
  obtain ⟨cur, h1, h2⟩ := h
  simp [World.frozen?, h1]
  intro h3
  omega
theorem Brow.set {w : World} {g n : Nat} (h : Brow w g n) (i : Nat) (u : Value) : Brow (w.setCell ⟨g, i, none⟩ u) g n := by
  obtain ⟨cur, h1, h2⟩ := h
  refine ⟨cur.setIfInBounds i u, ?_, by simpa using h2⟩
  simp [World.setCell, Array.getElem?_modify, h1]
theorem blk_far {w : World} {M : Nat} {C : List Value} {T : TypeId} (h : Blk w M C T) (a : Addr) (hne : a.block ≠ M) (u : Value) : Blk (w.setCell a u) M C T := by
  unfold Blk at *
  simp [World.setCell, Array.getElem?_modify, h, hne]
theorem conv_row (x : List UInt8) (w : World) (hx : x.length ≤ 1000000) : ∃ cap W, (convert 9 35 (.string (bA x))).run Tryd.prog w = .ok (.slice (some ⟨w.heap.size, 0, none⟩) x.length cap) W ∧ Ints .u8 W (some ⟨w.heap.size, 0, none⟩) x.length cap (numsL x) ∧ Below w.heap.size w W ∧ Brow W w.heap.size x.length ∧ W.heap.size = w.heap.size + 1 := by
  have hs : (bA x).size = x.length := bA_size x
  have hrun := Lib.run_convert_string_bytes (P := Tryd.prog) w 9 35 5 (bA x) Tryd.underlying9 Tryd.underlying35 Tryd.underlying5
  rw [hs] at hrun
  refine ⟨_, _, hrun, ⟨⟨by simp [numsL], ?_, ?_, (fun h => by cases h), .inr ⟨_, _, rfl, fun i hi => ?_⟩⟩, fun n hn => ?_⟩, ⟨rfl, rfl, rfl, by rw [Lib.bytesWorld_size]; omega, fun b hb => Lib.bytesWorld_at_old w _ _ b hb⟩, ⟨_, Lib.bytesWorld_at_new w _ _, ?_⟩, Lib.bytesWorld_size w _ _⟩
  · exact grownCap_ge _ _ _ _
  · exact grownCap_le_maxLen _ _ _ _ (by unfold maxLen; omega)
  · have hi2 : i < x.length := by simpa [numsL] using hi
    rw [Nat.zero_add, Lib.bytesWorld_cell w _ (bA x) i (by omega), bA_data]
    unfold numsL
    rw [List.getElem?_map, List.getElem?_map, List.getElem?_eq_getElem hi2, List.getD_eq_getElem?_getD, List.getElem?_eq_getElem hi2]
    rfl
  · unfold numsL at hn
    obtain ⟨c, _, rfl⟩ := List.mem_map.1 hn
    exact WalkArith.wf_u8 ⟨by omega, by have := c.toNat_lt; omega⟩
  · unfold Lib.bytesCells
    simp [hs]
theorem readC_ok (a : Option Addr) (len cap : Nat) (L : List UInt8) (c : CfM) (w : World) (he : Env w) (hI : Ints .u8 w a len cap (numsL L)) (h : confF L = .ok c) :
    Calls Tryd.prog 16 #[.slice a len cap] w fun e w' => (∃ dt dc, e = .returned (.tuple #[.agg #[.int .i64 c.k0, .int .i64 c.k1, .int .i64 c.k2, .int .i64 c.a0, .int .i64 c.a1, .int .i64 c.a2, .slice dt c.T.length dc, .int .i64 c.per, .int .i64 c.ret, .int .i64 c.age, .int .i64 c.dead], .int .i64 0, .int .i64 0]) ∧ OwnR w' w.heap.size 39 5 (.slice dt c.T.length dc) c.T.length (c.T.flatMap ThrV.cells) ∧ c.ok) ∧ Below w.heap.size w w' := by
  refine (cf_Read a len cap L w he hI).mono ?_
  rw [h]
  rintro e w' ⟨⟨v, rfl, hown, hok, _⟩, hb⟩
  obtain ⟨ta, tc, rfl, _⟩ := rowR_of_own hown
  exact ⟨⟨ta, tc, rfl, hown, hok⟩, hb⟩
theorem readC_no (a : Option Addr) (len cap : Nat) (L : List UInt8) (x y : Int) (w : World) (he : Env w) (hI : Ints .u8 w a len cap (numsL L)) (h : confF L = .error (x, y)) :
    Calls Tryd.prog 16 #[.slice a len cap] w fun e w' => e = .returned (.tuple #[.agg #[.int .i64 0, .int .i64 0, .int .i64 0, .int .i64 0, .int .i64 0, .int .i64 0, .slice none 0 0, .int .i64 0, .int .i64 0, .int .i64 0, .int .i64 0], .int .i64 x, .int .i64 y]) ∧ Below w.heap.size w w' := by
  refine (cf_Read a len cap L w he hI).mono ?_
  rw [h]
  exact fun e w' h => h
end Go.Proofs.YtcaenbobfneejaaDoor
