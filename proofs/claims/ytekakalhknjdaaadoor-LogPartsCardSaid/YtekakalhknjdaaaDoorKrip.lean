
/- A region that draws its order, each operation shown once: what an operation leaves is told by a fact that later worlds keep. -/
import Derived.Deep.RegionHeld3
import Derived.Lib.Hide
namespace Go.Proofs.YtekakalhknjdaaaDoor
set_option linter.unusedVariables false

/-- One proof for each of a list. -/
def AllL (p : Nat → Prop) : List Nat → Prop
  | [] => True
  | i :: l => p i ∧ AllL p l
theorem AllL.nil {p : Nat → Prop} : AllL p [] := trivial
theorem AllL.cons {p : Nat → Prop} {i : Nat} {l : List Nat} (h : p i) (hs : AllL p l) : AllL p (i :: l) := ⟨h, hs⟩
theorem AllL.get {p : Nat → Prop} : ∀ {l : List Nat}, AllL p l → ∀ i ∈ l, p i
  | _ :: _, h, i, hi => by
    rcases List.mem_cons.1 hi with rfl | hi
    · exact h.1
    · exact AllL.get h.2 i hi

def krAfter (md : Region.Mode) (ops : Array Oper) (i : Nat) : List Nat :=
  match ops[i]? with
  | some o => (o.after.toList.filter (Region.binds md)).map (·.on)
  | none => []
def krDst (ops : Array Oper) (i : Nat) : Option Nat := (ops[i]?).bind (·.dst)

/-- What must hold of the order: 'bf' tells of each operation some that come up ahead of it. -/
def krOK (md : Region.Mode) (ops : Array Oper) (bf : List (List Nat)) (todo : List Nat) (sup : List (List Nat)) (ds : List Nat) (listed : Array Bool) : Bool :=
  ((List.range ops.size).all fun i => ((krAfter md ops i).all fun e => decide (e < i)) && (bf.getD i []).all fun e => (krAfter md ops i).any fun k => k == e || (bf.getD k []).contains e) &&
  ((List.range ops.size).all fun i => listed.getD i false || todo.contains i || todo.all fun j => (bf.getD i []).contains j) &&
  (todo.all fun j => decide (j < ops.size) && !listed.getD j true && (sup.getD j []).all fun d => todo.all fun k => decide (krDst ops k ≠ some d) || k == j || (bf.getD j []).contains k) &&
  (todo.all fun j => match krDst ops j with | some d => ds.contains d | none => true) &&
  decide (listed.size = ops.size) &&
  ((List.range ops.size).all fun i => !listed.getD i false || (krAfter md ops i).all fun e => listed.getD e false) && decide todo.Nodup

/-- The slots that a fact may look at. -/
def restr (l : List Nat) (t : Nat → Value) : Nat → Value := fun d => bif l.contains d then t d else undef
theorem restr_congr {l : List Nat} {t t' : Nat → Value} (h : ∀ d ∈ l, t d = t' d) : restr l t = restr l t' := by
  funext d
  unfold restr
  cases hc : l.contains d
  · rfl
  · exact h d (by simpa using hc)
def upd (t : Nat → Value) (d : Option Nat) (v : Value) : Nat → Value := match d with | some d => fun k => bif k == d then v else t k | none => t
/-- The state whose slots 'ds' hold what 't' tells. -/
def setl (a : Act) (ds : List Nat) (t : Nat → Value) : Act := ds.foldl (fun a d => a.put (some d) (t d)) a

theorem foldput_defers (t : Nat → Value) : ∀ (ds : List Nat) (a : Act), (ds.foldl (fun a d => a.put (some d) (t d)) a).defers = a.defers
  | [], _ => rfl
  | d :: ds, a => by rw [List.foldl_cons, foldput_defers t ds]; rfl
theorem foldput_size (t : Nat → Value) : ∀ (ds : List Nat) (a : Act), (ds.foldl (fun a d => a.put (some d) (t d)) a).tmps.size = a.tmps.size
  | [], _ => rfl
  | d :: ds, a => by rw [List.foldl_cons, foldput_size t ds]; simp [Act.put]
theorem foldput_get (t : Nat → Value) : ∀ (ds : List Nat) (a : Act) (i : Nat), (ds.foldl (fun a d => a.put (some d) (t d)) a).tmps[i]? = if i ∈ ds ∧ i < a.tmps.size then some (t i) else a.tmps[i]?
  | [], a, i => by simp
  | d :: ds, a, i => by
    rw [List.foldl_cons, foldput_get t ds]
    simp only [Act.put, Array.size_setIfInBounds, List.mem_cons]
    by_cases h : i ∈ ds ∧ i < a.tmps.size
    · rw [if_pos h, if_pos ⟨.inr h.1, h.2⟩]
    · rw [if_neg h, Array.getElem?_setIfInBounds]
      by_cases hd : d = i
      · subst hd
        rw [if_pos rfl]
        by_cases hl : d < a.tmps.size
        · rw [if_pos hl, if_pos ⟨.inl rfl, hl⟩]
        · rw [if_neg hl, if_neg (fun q => hl q.2), Array.getElem?_eq_none (by omega)]
      · rw [if_neg hd, if_neg]
        rintro ⟨q | q, hl⟩
        · exact hd q.symm
        · exact h ⟨q, hl⟩
theorem act_ext {a b : Act} (h1 : ∀ i : Nat, a.tmps[i]? = b.tmps[i]?) (h2 : a.defers = b.defers) : a = b := by
  cases a; cases b
  simp only at h1 h2
  subst h2
  congr 1
  exact Array.ext_getElem? h1
theorem setl_put (a : Act) (ds : List Nat) (t : Nat → Value) (d : Option Nat) (v : Value) (h : ∀ k, d = some k → k ∈ ds) : (setl a ds t).put d v = setl a ds (upd t d v) := by
  cases d with
  | none => rfl
  | some d =>
    have hd := h d rfl
    refine act_ext (fun i => ?_) ?_
    · unfold setl
      show (Array.setIfInBounds _ d v)[i]? = _
      rw [Array.getElem?_setIfInBounds, foldput_size, foldput_get, foldput_get]
      by_cases e : d = i
      · subst e
        by_cases hl : d < a.tmps.size
        · simp [upd, hl, hd]
        · simp [hl]
      · rw [if_neg e]
        simp [upd, show (i == d) = false from by simpa using fun q : i = d => e q.symm]
    · unfold setl
      exact (foldput_defers t ds a).trans (foldput_defers (upd t (some d) v) ds a).symm
theorem setl_self (a : Act) (ds : List Nat) : a = setl a ds (fun d => a.tmps.getD d undef) := by
  refine act_ext (fun i => ?_) ?_
  · unfold setl
    rw [foldput_get]
    split
    · rename_i h
      rw [Array.getElem?_eq_getElem h.2]
      simp [h.2]
    · rfl
  · unfold setl
    rw [foldput_defers]

section
variable {P : Program} {ops : Array Oper} {Q : Exit → Act → World → Prop} {md : Region.Mode} {S : World → Prop}

theorem krOK_bf {bf : List (List Nat)} (h : ((List.range ops.size).all fun i => ((krAfter md ops i).all fun e => decide (e < i)) && (bf.getD i []).all fun e => (krAfter md ops i).any fun k => k == e || (bf.getD k []).contains e) = true)
    {listed : Array Bool} (hcl : ∀ j, listed.getD j false = true → ∀ e ∈ krAfter md ops j, listed.getD e false = true) :
    ∀ n i, i ≤ n → i < ops.size → (∀ e ∈ krAfter md ops i, listed.getD e false = true) → ∀ e ∈ bf.getD i [], listed.getD e false = true := by
  intro n
  induction n with
  | zero =>
    intro i hi hs ha e he
    have h1 := List.all_eq_true.1 h i (List.mem_range.2 hs)
    simp only [Bool.and_eq_true, List.all_eq_true, List.any_eq_true, decide_eq_true_eq] at h1
    obtain ⟨k, hk, _⟩ := h1.2 e he
    have := h1.1 k hk
    omega
  | succ n ih =>
    intro i hi hs ha e he
    have h1 := List.all_eq_true.1 h i (List.mem_range.2 hs)
    simp only [Bool.and_eq_true, List.all_eq_true, List.any_eq_true, decide_eq_true_eq, Bool.or_eq_true, beq_iff_eq, List.contains_iff_mem] at h1
    obtain ⟨k, hk, h2⟩ := h1.2 e he
    have hlt := h1.1 k hk
    rcases h2 with rfl | h2
    · exact ha k hk
    · exact ih k (by omega) (by omega) (hcl k (ha k hk)) e h2

/-- One operation's duty. -/
def KrOp (P : Program) (ops : Array Oper) (Q : Exit → Act → World → Prop) (S : World → Prop) (le : World → World → Prop) (a : Act) (ds : List Nat) (bf sup : List (List Nat)) (todo : List Nat) (F : Nat → (Nat → Value) → World → Prop) (i : Nat) : Prop :=
  ∀ o, ops[i]? = some o → ∀ t w, S w → (∀ e, todo.contains e = true → (bf.getD i []).contains e = true → F e (restr (sup.getD e []) t) w) → ∀ K' : Act → World → Prop,
    Shut (∀ v w', le w w' → S w' → F i (restr (sup.getD i []) (upd t o.dst v)) w' → K' ((setl a ds t).put o.dst v) w') →
    if Region.wanted o (yielded ops (setl a ds t).tmps) = true then Oper.wp P o (setl a ds t) w K' Q else K' ((setl a ds t).put o.dst undef) w

theorem krip_go {le : World → World → Prop} {a : Act} {ds : List Nat} {bf sup : List (List Nat)} {todo : List Nat} {F : Nat → (Nat → Value) → World → Prop} {listed0 : Array Bool} {fuel0 : Nat}
    (hok : krOK md ops bf todo sup ds listed0 = true)
    (hst : ∀ i ∈ todo, ∀ t w w', le w w' → F i t w → F i t w') (hop : ∀ i ∈ todo, KrOp P ops Q S le a ds bf sup todo F i)
    (hend : ∀ t w, S w → (∀ e, todo.contains e = true → F e (restr (sup.getD e []) t) w) → wpAnyH P md ops Q S fuel0 (todo.foldl (fun l i => l.setIfInBounds i true) listed0) (setl a ds t) w) :
    ∀ (n : Nat) (listed : Array Bool) (t : Nat → Value) (w : World), (todo.filter fun i => !listed.getD i false).length = n → listed.size = ops.size →
      (∀ j, listed.getD j false = true → ∀ e ∈ krAfter md ops j, listed.getD e false = true) → (∀ j, listed0.getD j false = true → listed.getD j false = true) →
      (∀ j, listed.getD j false = true → listed0.getD j false = true ∨ (j ∈ todo ∧ F j (restr (sup.getD j []) t) w)) → S w →
      wpAnyH P md ops Q S (fuel0 + n) listed (setl a ds t) w := by
  unfold krOK at hok
  simp only [Bool.and_eq_true] at hok
  obtain ⟨⟨⟨⟨⟨⟨hbf, htail⟩, hsup⟩, hds⟩, hsz⟩, hcl0⟩, hnd⟩ := hok
  intro n
  induction n with
  | zero =>
    intro listed t w hn hsize hcl h0 hF hS
    have hall : ∀ i ∈ todo, listed.getD i false = true := by
      intro i hi
      have := List.eq_nil_of_length_eq_zero hn
      rcases hb : listed.getD i false with _ | _
      · have hx : i ∈ todo.filter fun i => !listed.getD i false := List.mem_filter.2 ⟨hi, by simp only [hb]; rfl⟩
        rw [this] at hx; cases hx
      · rfl
    have hfold : ∀ (l : List Nat) (x : Array Bool), (l.foldl (fun l i => l.setIfInBounds i true) x).size = x.size := by
      intro l
      induction l with
      | nil => intro x; rfl
      | cons b l ih => intro x; rw [List.foldl_cons, ih]; simp
    have hfoldg : ∀ (l : List Nat) (x : Array Bool) (j : Nat), (l.foldl (fun l i => l.setIfInBounds i true) x)[j]? = if j ∈ l ∧ j < x.size then some true else x[j]? := by
      intro l
      induction l with
      | nil => intro x j; simp
      | cons b l ih =>
        intro x j
        rw [List.foldl_cons, ih, Array.size_setIfInBounds, Array.getElem?_setIfInBounds]
        by_cases h1 : j ∈ l ∧ j < x.size
        · rw [if_pos h1, if_pos ⟨List.mem_cons_of_mem _ h1.1, h1.2⟩]
        · rw [if_neg h1]
          by_cases e : b = j
          · subst e
            rw [if_pos rfl]
            by_cases hl : b < x.size
            · rw [if_pos hl, if_pos ⟨List.mem_cons_self, hl⟩]
            · rw [if_neg hl, if_neg (fun q => hl q.2), Array.getElem?_eq_none (by omega)]
          · rw [if_neg e, if_neg]
            rintro ⟨q, hl⟩
            rcases List.mem_cons.1 q with q | q
            · exact e q.symm
            · exact h1 ⟨q, hl⟩
    have heq : listed = todo.foldl (fun l i => l.setIfInBounds i true) listed0 := by
      refine Array.ext_getElem? (fun j => ?_)
      rw [hfoldg]
      have hsz' := of_decide_eq_true hsz
      by_cases hj : j < ops.size
      · have hjl : j < listed.size := by omega
        have hj0 : j < listed0.size := by omega
        rw [Array.getElem?_eq_getElem hjl]
        split
        · rename_i h
          have := hall j h.1
          simp [hjl] at this
          rw [this]
        · rename_i h
          rw [Array.getElem?_eq_getElem hj0]
          congr 1
          rcases hb : listed0.getD j false with _ | _
          · rcases hb2 : listed.getD j false with _ | _
            · simp [hjl, hj0] at hb hb2; rw [hb, hb2]
            · rcases hF j hb2 with q | ⟨q, _⟩
              · rw [hb] at q; cases q
              · exact absurd ⟨q, hj0⟩ h
          · have hb2 := h0 j hb
            simp [hjl, hj0] at hb hb2; rw [hb, hb2]
      · rw [Array.getElem?_eq_none (by omega), if_neg (by omega), Array.getElem?_eq_none (by omega)]
    rw [heq]
    refine hend t w hS (fun e he => ?_)
    have he' : e ∈ todo := by simpa using he
    rcases hF e (hall e he') with q | q
    · have := List.all_eq_true.1 hsup e he'
      simp only [Bool.and_eq_true, Bool.not_eq_true'] at this
      have h2 := this.1.2
      have : listed0.getD e true = true := by
        rcases Nat.lt_or_ge e listed0.size with l | l
        · simp [l] at q ⊢; exact q
        · simp [Array.getElem?_eq_none l]
      rw [this] at h2; cases h2
    · exact q.2
  | succ n ih =>
    intro listed t w hn hsize hcl h0 hF hS
    -- one of todo is not listed
    obtain ⟨i0, hi0⟩ : ∃ i, i ∈ todo.filter fun i => !listed.getD i false := by
      cases hx : (todo.filter fun i => !listed.getD i false) with
      | nil => rw [hx] at hn; cases hn
      | cons x l => exact ⟨x, List.mem_cons_self⟩
    obtain ⟨hi0t, hi0l⟩ := List.mem_filter.1 hi0
    have hi0s : i0 < ops.size := by
      have := List.all_eq_true.1 hsup i0 hi0t
      simp only [Bool.and_eq_true, decide_eq_true_eq] at this
      exact this.1.1
    have hgetD : ∀ j, j < ops.size → listed.getD j true = listed.getD j false := fun j hj => by
      have : j < listed.size := by omega
      simp [this]
    refine ⟨fun hnil => ?_, fun i hi => ?_⟩
    · -- the least that is not listed is ready
      exfalso
      have hex : ∀ m, m ≤ i0 → (∀ k, k < m → listed.getD k false = true) → False := by
        intro m hm
        induction h : i0 - m generalizing m with
        | zero =>
          intro hk
          have e : m = i0 := by omega
          subst e
          have h1 := List.all_eq_true.1 hbf m (List.mem_range.2 hi0s)
          simp only [Bool.and_eq_true, List.all_eq_true, decide_eq_true_eq] at h1
          have : m ∈ Region.ready md ops listed := mem_ready.2 ⟨by rw [hgetD m hi0s]; simpa using hi0l, ops[m], by simp [hi0s], fun e he hb => hk _ (h1.1 _ (by
            unfold krAfter
            rw [Array.getElem?_eq_getElem hi0s]
            exact List.mem_map.2 ⟨e, List.mem_filter.2 ⟨by simpa using he, hb⟩, rfl⟩))⟩
          rw [hnil] at this
          cases this
        | succ r ihm =>
          intro hk
          rcases hb : listed.getD m false with _ | _
          · have hms : m < ops.size := by omega
            have h1 := List.all_eq_true.1 hbf m (List.mem_range.2 hms)
            simp only [Bool.and_eq_true, List.all_eq_true, decide_eq_true_eq] at h1
            have : m ∈ Region.ready md ops listed := mem_ready.2 ⟨by rw [hgetD m hms]; exact hb, ops[m], by simp [hms], fun e he hb => hk _ (h1.1 _ (by
              unfold krAfter
              rw [Array.getElem?_eq_getElem hms]
              exact List.mem_map.2 ⟨e, List.mem_filter.2 ⟨by simpa using he, hb⟩, rfl⟩))⟩
            rw [hnil] at this
            cases this
          · refine ihm (m + 1) (by omega) (by omega) (fun k hk' => ?_)
            rcases Nat.lt_or_ge k m with q | q
            · exact hk k q
            · have : k = m := by omega
              rw [this]; exact hb
      exact hex 0 (by omega) (fun k hk => absurd hk (by omega))
    · obtain ⟨hil, o, hoi, hafter⟩ := mem_ready.1 hi
      have his : i < ops.size := (Array.getElem?_eq_some_iff.1 hoi).1
      have hil' : listed.getD i false = false := by rw [← hgetD i his]; exact hil
      have hka : ∀ e ∈ krAfter md ops i, listed.getD e false = true := by
        intro e he
        unfold krAfter at he
        rw [hoi] at he
        obtain ⟨x, hx, rfl⟩ := List.mem_map.1 he
        obtain ⟨h1, h2⟩ := List.mem_filter.1 hx
        exact hafter x (by simpa using h1) h2
      have hbfl := krOK_bf hbf hcl i i (Nat.le_refl _) his hka
      have hit : i ∈ todo := by
        have := List.all_eq_true.1 htail i (List.mem_range.2 his)
        simp only [Bool.or_eq_true, List.all_eq_true, List.contains_iff_mem] at this
        rcases this with (q | q) | q
        · rw [h0 i q] at hil'; cases hil'
        · exact q
        · have := hbfl i0 (q i0 hi0t)
          rw [this] at hi0l
          cases hi0l
      have hdd : ∀ k, o.dst = some k → k ∈ ds := by
        intro k hk
        have := List.all_eq_true.1 hds i hit
        unfold krDst at this
        rw [hoi] at this
        simp only [Option.bind_some, hk, List.contains_iff_mem] at this
        exact this
      have hF' : ∀ e, todo.contains e = true → (bf.getD i []).contains e = true → F e (restr (sup.getD e []) t) w := by
        intro e he hb
        have he' : e ∈ todo := by simpa using he
        rcases hF e (hbfl e (by simpa using hb)) with q | q
        · have := List.all_eq_true.1 hsup e he'
          simp only [Bool.and_eq_true, Bool.not_eq_true'] at this
          have h2 := this.1.2
          have : listed0.getD e true = true := by
            rcases Nat.lt_or_ge e listed0.size with l | l
            · simp [l] at q ⊢; exact q
            · simp [Array.getElem?_eq_none l]
          rw [this] at h2; cases h2
        · exact q.2
      refine wpOp_step hoi (fun K' hK => hop i hit o hoi t w hS hF' K' (fun v w' hle hS' hFi => ?_))
      rw [setl_put a ds t o.dst v hdd] at *
      refine hK _ _ ⟨hS', ?_⟩
      have hmono : ∀ j, listed.getD j false = true → (listed.setIfInBounds i true).getD j false = true := fun j hj => getD_set_true hj
      have hset : ∀ j, (listed.setIfInBounds i true).getD j false = true → j = i ∨ listed.getD j false = true := by
        intro j hj
        by_cases e : i = j
        · exact .inl e.symm
        · rw [getD_set_ne false e] at hj; exact .inr hj
      refine ih (listed.setIfInBounds i true) (upd t o.dst v) w' ?_ (by simp [hsize]) ?_ (fun j hj => hmono j (h0 j hj)) ?_ hS'
      · have hself : (listed.setIfInBounds i true).getD i false = true := by simp [show i < listed.size by omega]
        have hfe : (todo.filter fun k => !(listed.setIfInBounds i true).getD k false) = (todo.filter fun k => !listed.getD k false).erase i := by
          have hN : (todo.filter fun k => !listed.getD k false).Nodup := List.Pairwise.filter _ (of_decide_eq_true hnd)
          rw [hN.erase_eq_filter, List.filter_filter]
          refine List.filter_congr (fun k _ => ?_)
          by_cases e : i = k
          · subst e
            rw [hself]; simp
          · rw [getD_set_ne false e]
            simp [show (k != i) = true from by simpa using fun q : k = i => e q.symm]
        rw [hfe, List.length_erase_of_mem (List.mem_filter.2 ⟨hit, by rw [hil']; rfl⟩), hn]
        rfl
      · intro j hj e he
        rcases hset j hj with rfl | hj
        · exact hmono e (hka e he)
        · exact hmono e (hcl j hj e he)
      · intro j hj
        rcases hset j hj with rfl | hj
        · exact .inr ⟨hit, hFi⟩
        · rcases hF j hj with q | ⟨q, hq⟩
          · exact .inl q
          · refine .inr ⟨q, ?_⟩
            have hjs := List.all_eq_true.1 hsup j q
            simp only [Bool.and_eq_true, decide_eq_true_eq, List.all_eq_true, Bool.or_eq_true, beq_iff_eq, List.contains_iff_mem] at hjs
            have hc : restr (sup.getD j []) (upd t o.dst v) = restr (sup.getD j []) t := by
              refine restr_congr (fun d hd => ?_)
              cases ho : o.dst with
              | none => rfl
              | some d' =>
                show (bif d == d' then v else t d) = t d
                by_cases e : d = d'
                · subst e
                  exfalso
                  rcases hjs.2 d hd i hit with (z | z) | z
                  · exact z (by unfold krDst; rw [hoi]; exact ho)
                  · subst z; rw [hj] at hil'; cases hil'
                  · have := krOK_bf hbf hcl j j (Nat.le_refl _) hjs.1.1 (hcl j hj) i z
                    rw [this] at hil'; cases hil'
                · rw [show (d == d') = false from by simpa using e]; rfl
            rw [hc]
            exact hst j q _ _ _ hle hq

theorem KrOp.of {le : World → World → Prop} {a : Act} {ds : List Nat} {bf sup : List (List Nat)} {todo : List Nat} {F : Nat → (Nat → Value) → World → Prop} {i : Nat} {o : Oper} (ho : ops[i]? = some o)
    (h : ∀ t w, S w → (∀ e, todo.contains e = true → (bf.getD i []).contains e = true → F e (restr (sup.getD e []) t) w) → ∀ K' : Act → World → Prop,
      Shut (∀ v w', le w w' → S w' → F i (restr (sup.getD i []) (upd t o.dst v)) w' → K' ((setl a ds t).put o.dst v) w') →
      if Region.wanted o (yielded ops (setl a ds t).tmps) = true then Oper.wp P o (setl a ds t) w K' Q else K' ((setl a ds t).put o.dst undef) w) : KrOp P ops Q S le a ds bf sup todo F i := by
  intro o' ho' 
  obtain rfl : o = o' := Option.some.inj (ho.symm.trans ho')
  exact h
/-- The fact of one operation, out of a list. -/
def krF : List (Nat × ((Nat → Value) → World → Prop)) → Nat → (Nat → Value) → World → Prop
  | [], _ => fun _ _ => True
  | (j, f) :: l, i => bif i == j then f else krF l i

/-- **The rule.** -/
theorem krip {a : Act} {w : World} {listed0 : Array Bool} (le : World → World → Prop) (ds : List Nat) (bf sup : List (List Nat)) (todo : List Nat) (F : Nat → (Nat → Value) → World → Prop) (fuel0 : Nat) (listed1 : Array Bool) {fuel : Nat} (hl1 : todo.foldl (fun l i => l.setIfInBounds i true) listed0 = listed1)
    (hfuel : fuel = fuel0 + todo.length) (hok : krOK md ops bf todo sup ds listed0 = true) (hS : S w)
    (hst : AllL (fun i => ∀ t w w', le w w' → F i t w → F i t w') todo)
    (hop : AllL (KrOp P ops Q S le a ds bf sup todo F) todo)
    (hend : ∀ t w, S w → (∀ e, todo.contains e = true → F e (restr (sup.getD e []) t) w) → wpAnyH P md ops Q S fuel0 listed1 (setl a ds t) w) :
    wpAnyH P md ops Q S fuel listed0 a w := by
  subst hfuel
  subst hl1
  have hok' := hok
  unfold krOK at hok'
  simp only [Bool.and_eq_true] at hok'
  obtain ⟨⟨⟨⟨⟨⟨hbf, htail⟩, hsup⟩, hds⟩, hsz⟩, hcl0⟩, hnd⟩ := hok'
  rw [setl_self a ds]
  have hno : ∀ i ∈ todo, listed0.getD i false = false := by
    intro i hi
    have := List.all_eq_true.1 hsup i hi
    simp only [Bool.and_eq_true, Bool.not_eq_true'] at this
    have h2 := this.1.2
    rcases Nat.lt_or_ge i listed0.size with l | l
    · simp [l] at h2 ⊢; exact h2
    · simp [Array.getElem?_eq_none l] at h2
  refine krip_go hok hst.get hop.get hend todo.length listed0 _ w ?_ (of_decide_eq_true hsz) ?_ (fun _ h => h) (fun j hj => .inl hj) hS
  · rw [List.filter_eq_self.2 (fun i hi => by rw [hno i hi]; rfl)]
  · intro j hj e he
    rcases Nat.lt_or_ge j ops.size with l | l
    · have := List.all_eq_true.1 hcl0 j (List.mem_range.2 l)
      simp only [Bool.or_eq_true, Bool.not_eq_true', List.all_eq_true] at this
      rcases this with q | q
      · rw [q] at hj; cases hj
      · exact q e he
    · have hs := of_decide_eq_true hsz
      simp [Array.getElem?_eq_none (show listed0.size ≤ j by omega)] at hj
end
end Go.Proofs.YtekakalhknjdaaaDoor
