
/- What the laws of stage 24 lean on. -/
import Derived.Test.YtpmkhimmlpnbpaaAwake24
namespace Go.Proofs.Ytpmkhimmlpnbpaa
open Go.RowKit
set_option linter.unusedVariables false
set_option linter.unusedSimpArgs false
theorem ent_B {x : EntV} (hx : x.ok) (h : entB x = true) : Bytes x.bytes := by
  obtain ⟨h1, h2, h3⟩ := entB_and h
  unfold EntV.bytes
  intro c hc
  rcases List.mem_cons.1 hc with rfl | hc
  · omega
  · exact PodV.bytes_B (PodV.fine h1) c hc
theorem stBytes_B {r : Nat} {o : On} {L : List EntV} (hok : ∀ x ∈ L, x.ok) (h : stB (r : Int) L = true) : Bytes (stBytes r o L) := by
  obtain ⟨_, _, h64⟩ := st_nums h
  unfold stBytes
  refine (W8_bytes r).app ?_
  intro c hc
  rcases List.mem_cons.1 hc with rfl | hc
  · have := onI_bd o; omega
  rcases List.mem_cons.1 hc with rfl | hc
  · omega
  · obtain ⟨x, hx, hc⟩ := List.mem_flatMap.1 hc
    exact ent_B (hok x hx) (st_ent h x hx) c hc
theorem ent_len {x : EntV} (h : entB x = true) : x.bytes.length ≤ 116 := by
  obtain ⟨h1, _⟩ := entB_and h
  have h2 := PodV.bytes_len x.pod
  have h3 : x.pod.id.size ≤ 24 ∧ x.pod.img.size ≤ 24 := by
    have f := PodV.fine h1
    exact ⟨(nameB_size f.id).2, (nameB_size f.img).2⟩
  unfold EntV.bytes
  rw [List.length_cons, h2]; omega
theorem stBytes_le {r : Nat} {o : On} {L : List EntV} (h : stB (r : Int) L = true) : 10 ≤ (stBytes r o L).length ∧ (stBytes r o L).length ≤ 7434 := by
  obtain ⟨_, _, h64⟩ := st_nums h
  rw [stBytes_len]
  have : ∀ M : List EntV, (∀ x ∈ M, entB x = true) → (M.flatMap EntV.bytes).length ≤ M.length * 116 := by
    intro M
    induction M with
    | nil => intro _; simp
    | cons x M ih =>
      intro hM
      rw [List.flatMap_cons, List.length_append, List.length_cons]
      have h1 := ent_len (hM x List.mem_cons_self)
      have h2 := ih (fun y hy => hM y (List.mem_cons_of_mem _ hy))
      omega
  have := this L (st_ent h)
  omega
theorem pods_right {r : Int} {L : List EntV} (h : stB r L = true) : ∀ x ∈ podsOf L, rightB x = true := by
  intro x hx
  unfold podsOf at hx
  obtain ⟨y, hy, rfl⟩ := List.mem_map.1 hx
  exact (entB_and (st_ent h y hy)).1
/-- state.Put of a right state, told by its numbers. -/
theorem st_PutI (r : Int) (a : Option Addr) (n c : Nat) (o : On) (L : List EntV) (w : World) (hl : L.length = n) (hok : ∀ x ∈ L, x.ok) (hR : Row w a n c 12 (L.flatMap EntV.cells)) (hr : stB r L = true) :
    Calls Try.prog 13 #[.agg #[.int .i64 r, .slice a n c, .bool o.a, .bool o.b, .bool o.c]] w fun e w' => ∃ b d, e = .returned (.tuple #[.slice b (stBytes r.toNat o L).length d, .int .i64 0]) ∧ OwnI w' w.heap.size 5 .u8 (.slice b (stBytes r.toNat o L).length d) (stBytes r.toNat o L) ∧ Ints .u8 w' b (stBytes r.toNat o L).length d (stBytes r.toNat o L) ∧ Below w.heap.size w w' := by
  obtain ⟨h0, _, _⟩ := st_nums hr
  obtain ⟨rn, rfl⟩ := Int.eq_ofNat_of_zero_le h0
  rw [Int.toNat_natCast]
  refine (st_Put rn a n c o L w hl hok hR hr).mono ?_
  rintro e w' ⟨v, rfl, hown, hb⟩
  have hbb : Bytes (stBytes rn o L) := stBytes_B hok hr
  obtain ⟨b, d, rfl, hi⟩ := ints_of_own hown (fun m hm => wf8 _ (hbb m hm))
  exact ⟨b, d, rfl, hown, hi, hb⟩
theorem same_bytes {r q : Int} {o p : On} {L M : List EntV} (hok : ∀ x ∈ L, x.ok) (h : stB r L = true) (hok' : ∀ x ∈ M, x.ok) (h' : stB q M = true) : (stBytes r.toNat o L == stBytes q.toNat p M) = sameS r o L q p M := by
  obtain ⟨h0, _⟩ := st_nums h
  obtain ⟨rn, rfl⟩ := Int.eq_ofNat_of_zero_le h0
  obtain ⟨k0, _⟩ := st_nums h'
  obtain ⟨qn, rfl⟩ := Int.eq_ofNat_of_zero_le k0
  rw [Int.toNat_natCast, Int.toNat_natCast, Bool.eq_iff_iff, beq_iff_eq, sameS_iff]
  constructor
  · intro e
    exact stBytes_inj hok h hok' h' e
  · rintro ⟨e1, rfl, rfl⟩
    have : rn = qn := by omega
    rw [this]
theorem getI {r : Int} {o : On} {L : List EntV} (hok : ∀ x ∈ L, x.ok) (h : stB r L = true) : GetOK (stBytes r.toNat o L) r o L := by
  obtain ⟨h0, _⟩ := st_nums h
  obtain ⟨rn, rfl⟩ := Int.eq_ofNat_of_zero_le h0
  exact get_put hok h
theorem lenI {r : Int} {o : On} {L : List EntV} (h : stB r L = true) : 10 ≤ (stBytes r.toNat o L).length ∧ (stBytes r.toNat o L).length ≤ 7434 := by
  obtain ⟨h0, _⟩ := st_nums h
  obtain ⟨rn, rfl⟩ := Int.eq_ofNat_of_zero_le h0
  exact stBytes_le h
theorem st_GetI (a : Option Addr) (n c : Nat) (l : List Int) (w : World) (hI : Ints .u8 w a n c l) (hn : n ≤ 100000) {r : Int} {o : On} {L : List EntV} (h : GetOK l r o L) :
    Calls Try.prog 18 #[.slice a n c] w fun e w' => ∃ b d, e = .returned (.tuple #[.agg #[.int .i64 r, .slice b L.length d, .bool o.a, .bool o.b, .bool o.c], .int .i64 0]) ∧ Row w' b L.length d 12 (L.flatMap EntV.cells) ∧ Below w.heap.size w w' := by
  refine (st_Get a n c l w hI hn).mono ?_
  rintro e w' ⟨⟨r', o', L', b, d, h', rfl, hown, _⟩ | ⟨hno, _⟩, hb⟩
  · obtain ⟨rfl, rfl, rfl⟩ := h'.uniq h
    obtain ⟨b2, d2, e2, hr⟩ := rowR_of_own hown
    cases e2
    exact ⟨b, d, rfl, hr, hb⟩
  · exact absurd h (hno _ _ _)
theorem st_GetN (a : Option Addr) (n c : Nat) (l : List Int) (w : World) (hI : Ints .u8 w a n c l) (hn : n ≤ 100000) (h : ∀ r o L, ¬ GetOK l r o L) :
    Calls Try.prog 18 #[.slice a n c] w fun e w' => e = .returned (.tuple #[.agg #[.int .i64 0, .slice none 0 0, .bool false, .bool false, .bool false], .int .i64 3]) ∧ Below w.heap.size w w' := by
  refine (st_Get a n c l w hI hn).mono ?_
  rintro e w' ⟨⟨r', o', L', b, d, h', _⟩ | ⟨_, rfl⟩, hb⟩
  · exact absurd h' (h _ _ _)
  · exact ⟨rfl, hb⟩
end Go.Proofs.Ytpmkhimmlpnbpaa
