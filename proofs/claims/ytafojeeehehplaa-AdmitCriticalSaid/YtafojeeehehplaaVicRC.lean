/- bilgeref21.Choose: contract. -/
import Derived.Test.YtafojeeehehplaaVicNext
import Derived.Test.YtafojeeehehplaaAppG
namespace Go.Proofs.Ytafojeeehehplaa
open Go.RowKit
set_option linter.unusedVariables false
set_option linter.unusedSimpArgs false
def sliceLen : Value → Nat
  | .slice _ n _ => n
  | _ => 0
def NextI (L : List PodV) (o : Option PodV) (i : Int) : Prop := (o = none ∧ i = -1) ∨ ∃ (j : Nat) (y : PodV), o = some y ∧ L[j]? = some y ∧ i = (j : Int)
theorem row_nil {w : World} {size : Nat} : Row w none 0 0 size ([] : List Value) := ⟨by simp, Nat.le_refl _, by unfold maxLen; omega, fun _ => ⟨rfl, rfl⟩, .inl rfl⟩
theorem next_call (p : PodV) (a : Option Addr) (len cap : Nat) (L : List PodV) (a2 : Option Addr) (n2 cap2 : Nat) (G : List ByteArray) (o : Option PodV) (w : World) (hl : L.length = len) (hn : G.length = n2) (hR : Row w a len cap 11 (L.flatMap PodV.cells)) (hI : Row w a2 n2 cap2 1 (G.map Value.string)) (hlen : len ≤ 1000) (ho : bestF (fun x => mayB p x && !hasB G x.id) L = o) :
    Calls Try.prog 38 #[.slice a len cap, .agg #[.string p.id, .int .i64 p.prio, .bool p.crit, .int .i64 p.r0, .int .i64 p.r1, .int .i64 p.r2, .int .i64 p.l0, .int .i64 p.l1, .int .i64 p.l2, .string p.img, .int .i64 p.size], .slice a2 n2 cap2] w fun e w' => ∃ i : Int, e = .returned (.int .i64 i) ∧ NextI L o i ∧ Below w.heap.size w w' := by
  refine (vref_next p a len cap L a2 n2 cap2 G w hl hn hR hI hlen).mono ?_
  rintro e w' ⟨h, hb⟩
  rw [ho] at h
  rcases h with ⟨h1, rfl⟩ | ⟨j, y, h1, h2, rfl⟩
  · exact ⟨-1, rfl, .inl ⟨h1, rfl⟩, hb⟩
  · exact ⟨j, rfl, .inr ⟨j, y, h1, h2, rfl⟩, hb⟩
theorem rfits_own (R : Room) {B : Nat} {v : Value} (L : List PodV) (w : World) (h : OwnR w B 29 11 v L.length (L.flatMap PodV.cells)) (hok : ∀ x ∈ L, x.ok) :
    Calls Try.prog 37 #[.agg #[.int .i64 R.a, .int .i64 R.b, .int .i64 R.c], v] w fun e w' => e = .returned (.bool (fitsB R L)) ∧ Below w.heap.size w w' := by
  obtain ⟨a, cap, rfl, hr⟩ := rowR_of_own h
  exact vref_Fits R a L.length cap L w rfl hok hr
theorem sep_new {w w' : World} {B B' : Nat} {e e' : TypeId} {k k' : Nat} {v v' : Value} {n n' : Nat} {cs cs' : List Value} (h : OwnR w B e k v n cs) (h' : OwnR w' B' e' k' v' n' cs') (hB : w.heap.size ≤ B') : Sep v v' := fun q h1 h2 => by
  have e1 := World.ownsRow.lt h q h1
  have e2 := World.ownsRow.lt h' q h2
  omega
theorem owns_len {w : World} {B : Nat} {v : Value} {G : List ByteArray} (h : OwnS w B v G) : sliceLen v = G.length := by
  obtain ⟨a, c, rfl, _⟩ := rowR_of_own h
  rfl
theorem sortS_nil : sortS [] = [] := List.eq_nil_of_length_eq_zero (by rw [sortS_len]; rfl)
theorem take_map_next {M : List PodV} {j : Nat} {x : PodV} (h : M[j]? = some x) : (M.take j).map PodV.id ++ [x.id] = (M.take (j + 1)).map PodV.id := by
  rw [List.take_add_one, h, List.map_append]; rfl
set_option maxRecDepth 100000 in
set_option maxHeartbeats 16000000 in
theorem vref_Choose (R : Room) (p : PodV) (a : Option Addr) (len cap : Nat) (L : List PodV) (w : World) (hl : L.length = len) (hok : ∀ x ∈ L, x.ok) (hR : Row w a len cap 11 (L.flatMap PodV.cells)) (hd : Dist L) (hb : len ≤ 400) (hp : p.ok) :
    Calls Try.prog 29 #[.agg #[.int .i64 R.a, .int .i64 R.b, .int .i64 R.c], .slice a len cap, .agg #[.string p.id, .int .i64 p.prio, .bool p.crit, .int .i64 p.r0, .int .i64 p.r1, .int .i64 p.r2, .int .i64 p.l0, .int .i64 p.l1, .int .i64 p.l2, .string p.img, .int .i64 p.size]] w fun e w' => ChooseR w (chooseF R L p) e w' ∧ Below w.heap.size w w' := by
  have hw : Below w.heap.size w w := Below.refl _ _
  have hbel := hw
  have hbd : len ≤ cap ∧ cap ≤ 9223372036854775807 := by obtain ⟨_, h1, h2, _⟩ := hR; unfold maxLen at h2; exact ⟨h1, h2⟩
  obtain ⟨hbd1, hbd2⟩ := hbd
  have HR := Lib.hid hR
  have HDI := Lib.hid hd
  have HOK := Lib.hid hok
  have HPO := Lib.hid hp
  clear hR hok hd hp
  subst hl
  have HOK1 := Lib.hid (show ∀ x ∈ L ++ [p], x.ok from ok_snoc HOK.out HPO.out)
  have HOK2 := Lib.hid (show ∀ x ∈ stF L p ++ [p], x.ok from ok_snoc (fun x hx => HOK.out x (List.mem_filter.1 hx).1) HPO.out)
  go_enter Try.func29, Try.ntmps29
  go_upto_region 1 with fail
  have rm0 : ((w.alloc (.cells #[.int .i64 R.a, .int .i64 R.b, .int .i64 R.c] 22)).alloc (.cells #[.string p.id, .int .i64 p.prio, .bool p.crit, .int .i64 p.r0, .int .i64 p.r1, .int .i64 p.r2, .int .i64 p.l0, .int .i64 p.l1, .int .i64 p.l2, .string p.img, .int .i64 p.size] 29)).cell? ⟨w.heap.size, 0, none⟩ = some (.int .i64 R.a) := by first | (simp; done) | (rw [World.cell?_alloc_at _ _ _ _ (by simp)]; rfl) | (rw [World.cell?_alloc_past _ _ _ (by simp <;> omega), World.cell?_alloc_at _ _ _ _ (by simp)]; rfl) | (rw [World.cell?_alloc_past _ _ _ (by simp <;> omega), World.cell?_alloc_past _ _ _ (by simp <;> omega), World.cell?_alloc_at _ _ _ _ (by simp)]; rfl)
  have rm1 : ((w.alloc (.cells #[.int .i64 R.a, .int .i64 R.b, .int .i64 R.c] 22)).alloc (.cells #[.string p.id, .int .i64 p.prio, .bool p.crit, .int .i64 p.r0, .int .i64 p.r1, .int .i64 p.r2, .int .i64 p.l0, .int .i64 p.l1, .int .i64 p.l2, .string p.img, .int .i64 p.size] 29)).cell? ⟨w.heap.size, 1, none⟩ = some (.int .i64 R.b) := by first | (simp; done) | (rw [World.cell?_alloc_at _ _ _ _ (by simp)]; rfl) | (rw [World.cell?_alloc_past _ _ _ (by simp <;> omega), World.cell?_alloc_at _ _ _ _ (by simp)]; rfl) | (rw [World.cell?_alloc_past _ _ _ (by simp <;> omega), World.cell?_alloc_past _ _ _ (by simp <;> omega), World.cell?_alloc_at _ _ _ _ (by simp)]; rfl)
  have rm2 : ((w.alloc (.cells #[.int .i64 R.a, .int .i64 R.b, .int .i64 R.c] 22)).alloc (.cells #[.string p.id, .int .i64 p.prio, .bool p.crit, .int .i64 p.r0, .int .i64 p.r1, .int .i64 p.r2, .int .i64 p.l0, .int .i64 p.l1, .int .i64 p.l2, .string p.img, .int .i64 p.size] 29)).cell? ⟨w.heap.size, 2, none⟩ = some (.int .i64 R.c) := by first | (simp; done) | (rw [World.cell?_alloc_at _ _ _ _ (by simp)]; rfl) | (rw [World.cell?_alloc_past _ _ _ (by simp <;> omega), World.cell?_alloc_at _ _ _ _ (by simp)]; rfl) | (rw [World.cell?_alloc_past _ _ _ (by simp <;> omega), World.cell?_alloc_past _ _ _ (by simp <;> omega), World.cell?_alloc_at _ _ _ _ (by simp)]; rfl)
  have pp0 : ((w.alloc (.cells #[.int .i64 R.a, .int .i64 R.b, .int .i64 R.c] 22)).alloc (.cells #[.string p.id, .int .i64 p.prio, .bool p.crit, .int .i64 p.r0, .int .i64 p.r1, .int .i64 p.r2, .int .i64 p.l0, .int .i64 p.l1, .int .i64 p.l2, .string p.img, .int .i64 p.size] 29)).cell? ⟨w.heap.size + 1, 0, none⟩ = some (.string p.id) := by first | (simp; done) | (rw [World.cell?_alloc_at _ _ _ _ (by simp)]; rfl) | (rw [World.cell?_alloc_past _ _ _ (by simp <;> omega), World.cell?_alloc_at _ _ _ _ (by simp)]; rfl) | (rw [World.cell?_alloc_past _ _ _ (by simp <;> omega), World.cell?_alloc_past _ _ _ (by simp <;> omega), World.cell?_alloc_at _ _ _ _ (by simp)]; rfl)
  have pp1 : ((w.alloc (.cells #[.int .i64 R.a, .int .i64 R.b, .int .i64 R.c] 22)).alloc (.cells #[.string p.id, .int .i64 p.prio, .bool p.crit, .int .i64 p.r0, .int .i64 p.r1, .int .i64 p.r2, .int .i64 p.l0, .int .i64 p.l1, .int .i64 p.l2, .string p.img, .int .i64 p.size] 29)).cell? ⟨w.heap.size + 1, 1, none⟩ = some (.int .i64 p.prio) := by first | (simp; done) | (rw [World.cell?_alloc_at _ _ _ _ (by simp)]; rfl) | (rw [World.cell?_alloc_past _ _ _ (by simp <;> omega), World.cell?_alloc_at _ _ _ _ (by simp)]; rfl) | (rw [World.cell?_alloc_past _ _ _ (by simp <;> omega), World.cell?_alloc_past _ _ _ (by simp <;> omega), World.cell?_alloc_at _ _ _ _ (by simp)]; rfl)
  have pp2 : ((w.alloc (.cells #[.int .i64 R.a, .int .i64 R.b, .int .i64 R.c] 22)).alloc (.cells #[.string p.id, .int .i64 p.prio, .bool p.crit, .int .i64 p.r0, .int .i64 p.r1, .int .i64 p.r2, .int .i64 p.l0, .int .i64 p.l1, .int .i64 p.l2, .string p.img, .int .i64 p.size] 29)).cell? ⟨w.heap.size + 1, 2, none⟩ = some (.bool p.crit) := by first | (simp; done) | (rw [World.cell?_alloc_at _ _ _ _ (by simp)]; rfl) | (rw [World.cell?_alloc_past _ _ _ (by simp <;> omega), World.cell?_alloc_at _ _ _ _ (by simp)]; rfl) | (rw [World.cell?_alloc_past _ _ _ (by simp <;> omega), World.cell?_alloc_past _ _ _ (by simp <;> omega), World.cell?_alloc_at _ _ _ _ (by simp)]; rfl)
  have pp3 : ((w.alloc (.cells #[.int .i64 R.a, .int .i64 R.b, .int .i64 R.c] 22)).alloc (.cells #[.string p.id, .int .i64 p.prio, .bool p.crit, .int .i64 p.r0, .int .i64 p.r1, .int .i64 p.r2, .int .i64 p.l0, .int .i64 p.l1, .int .i64 p.l2, .string p.img, .int .i64 p.size] 29)).cell? ⟨w.heap.size + 1, 3, none⟩ = some (.int .i64 p.r0) := by first | (simp; done) | (rw [World.cell?_alloc_at _ _ _ _ (by simp)]; rfl) | (rw [World.cell?_alloc_past _ _ _ (by simp <;> omega), World.cell?_alloc_at _ _ _ _ (by simp)]; rfl) | (rw [World.cell?_alloc_past _ _ _ (by simp <;> omega), World.cell?_alloc_past _ _ _ (by simp <;> omega), World.cell?_alloc_at _ _ _ _ (by simp)]; rfl)
  have pp4 : ((w.alloc (.cells #[.int .i64 R.a, .int .i64 R.b, .int .i64 R.c] 22)).alloc (.cells #[.string p.id, .int .i64 p.prio, .bool p.crit, .int .i64 p.r0, .int .i64 p.r1, .int .i64 p.r2, .int .i64 p.l0, .int .i64 p.l1, .int .i64 p.l2, .string p.img, .int .i64 p.size] 29)).cell? ⟨w.heap.size + 1, 4, none⟩ = some (.int .i64 p.r1) := by first | (simp; done) | (rw [World.cell?_alloc_at _ _ _ _ (by simp)]; rfl) | (rw [World.cell?_alloc_past _ _ _ (by simp <;> omega), World.cell?_alloc_at _ _ _ _ (by simp)]; rfl) | (rw [World.cell?_alloc_past _ _ _ (by simp <;> omega), World.cell?_alloc_past _ _ _ (by simp <;> omega), World.cell?_alloc_at _ _ _ _ (by simp)]; rfl)
  have pp5 : ((w.alloc (.cells #[.int .i64 R.a, .int .i64 R.b, .int .i64 R.c] 22)).alloc (.cells #[.string p.id, .int .i64 p.prio, .bool p.crit, .int .i64 p.r0, .int .i64 p.r1, .int .i64 p.r2, .int .i64 p.l0, .int .i64 p.l1, .int .i64 p.l2, .string p.img, .int .i64 p.size] 29)).cell? ⟨w.heap.size + 1, 5, none⟩ = some (.int .i64 p.r2) := by first | (simp; done) | (rw [World.cell?_alloc_at _ _ _ _ (by simp)]; rfl) | (rw [World.cell?_alloc_past _ _ _ (by simp <;> omega), World.cell?_alloc_at _ _ _ _ (by simp)]; rfl) | (rw [World.cell?_alloc_past _ _ _ (by simp <;> omega), World.cell?_alloc_past _ _ _ (by simp <;> omega), World.cell?_alloc_at _ _ _ _ (by simp)]; rfl)
  have pp6 : ((w.alloc (.cells #[.int .i64 R.a, .int .i64 R.b, .int .i64 R.c] 22)).alloc (.cells #[.string p.id, .int .i64 p.prio, .bool p.crit, .int .i64 p.r0, .int .i64 p.r1, .int .i64 p.r2, .int .i64 p.l0, .int .i64 p.l1, .int .i64 p.l2, .string p.img, .int .i64 p.size] 29)).cell? ⟨w.heap.size + 1, 6, none⟩ = some (.int .i64 p.l0) := by first | (simp; done) | (rw [World.cell?_alloc_at _ _ _ _ (by simp)]; rfl) | (rw [World.cell?_alloc_past _ _ _ (by simp <;> omega), World.cell?_alloc_at _ _ _ _ (by simp)]; rfl) | (rw [World.cell?_alloc_past _ _ _ (by simp <;> omega), World.cell?_alloc_past _ _ _ (by simp <;> omega), World.cell?_alloc_at _ _ _ _ (by simp)]; rfl)
  have pp7 : ((w.alloc (.cells #[.int .i64 R.a, .int .i64 R.b, .int .i64 R.c] 22)).alloc (.cells #[.string p.id, .int .i64 p.prio, .bool p.crit, .int .i64 p.r0, .int .i64 p.r1, .int .i64 p.r2, .int .i64 p.l0, .int .i64 p.l1, .int .i64 p.l2, .string p.img, .int .i64 p.size] 29)).cell? ⟨w.heap.size + 1, 7, none⟩ = some (.int .i64 p.l1) := by first | (simp; done) | (rw [World.cell?_alloc_at _ _ _ _ (by simp)]; rfl) | (rw [World.cell?_alloc_past _ _ _ (by simp <;> omega), World.cell?_alloc_at _ _ _ _ (by simp)]; rfl) | (rw [World.cell?_alloc_past _ _ _ (by simp <;> omega), World.cell?_alloc_past _ _ _ (by simp <;> omega), World.cell?_alloc_at _ _ _ _ (by simp)]; rfl)
  have pp8 : ((w.alloc (.cells #[.int .i64 R.a, .int .i64 R.b, .int .i64 R.c] 22)).alloc (.cells #[.string p.id, .int .i64 p.prio, .bool p.crit, .int .i64 p.r0, .int .i64 p.r1, .int .i64 p.r2, .int .i64 p.l0, .int .i64 p.l1, .int .i64 p.l2, .string p.img, .int .i64 p.size] 29)).cell? ⟨w.heap.size + 1, 8, none⟩ = some (.int .i64 p.l2) := by first | (simp; done) | (rw [World.cell?_alloc_at _ _ _ _ (by simp)]; rfl) | (rw [World.cell?_alloc_past _ _ _ (by simp <;> omega), World.cell?_alloc_at _ _ _ _ (by simp)]; rfl) | (rw [World.cell?_alloc_past _ _ _ (by simp <;> omega), World.cell?_alloc_past _ _ _ (by simp <;> omega), World.cell?_alloc_at _ _ _ _ (by simp)]; rfl)
  have pp9 : ((w.alloc (.cells #[.int .i64 R.a, .int .i64 R.b, .int .i64 R.c] 22)).alloc (.cells #[.string p.id, .int .i64 p.prio, .bool p.crit, .int .i64 p.r0, .int .i64 p.r1, .int .i64 p.r2, .int .i64 p.l0, .int .i64 p.l1, .int .i64 p.l2, .string p.img, .int .i64 p.size] 29)).cell? ⟨w.heap.size + 1, 9, none⟩ = some (.string p.img) := by first | (simp; done) | (rw [World.cell?_alloc_at _ _ _ _ (by simp)]; rfl) | (rw [World.cell?_alloc_past _ _ _ (by simp <;> omega), World.cell?_alloc_at _ _ _ _ (by simp)]; rfl) | (rw [World.cell?_alloc_past _ _ _ (by simp <;> omega), World.cell?_alloc_past _ _ _ (by simp <;> omega), World.cell?_alloc_at _ _ _ _ (by simp)]; rfl)
  have pp10 : ((w.alloc (.cells #[.int .i64 R.a, .int .i64 R.b, .int .i64 R.c] 22)).alloc (.cells #[.string p.id, .int .i64 p.prio, .bool p.crit, .int .i64 p.r0, .int .i64 p.r1, .int .i64 p.r2, .int .i64 p.l0, .int .i64 p.l1, .int .i64 p.l2, .string p.img, .int .i64 p.size] 29)).cell? ⟨w.heap.size + 1, 10, none⟩ = some (.int .i64 p.size) := by first | (simp; done) | (rw [World.cell?_alloc_at _ _ _ _ (by simp)]; rfl) | (rw [World.cell?_alloc_past _ _ _ (by simp <;> omega), World.cell?_alloc_at _ _ _ _ (by simp)]; rfl) | (rw [World.cell?_alloc_past _ _ _ (by simp <;> omega), World.cell?_alloc_past _ _ _ (by simp <;> omega), World.cell?_alloc_at _ _ _ _ (by simp)]; rfl)
  have hb2 := (by repeat (first | exact hbel | refine belAlloc ?_ _ | refine belDrew ?_ | refine belSet ?_ _ _ (by simp)) : Below w.heap.size w ((w.alloc (.cells #[.int .i64 R.a, .int .i64 R.b, .int .i64 R.c] 22)).alloc (.cells #[.string p.id, .int .i64 p.prio, .bool p.crit, .int .i64 p.r0, .int .i64 p.r1, .int .i64 p.r2, .int .i64 p.l0, .int .i64 p.l1, .int .i64 p.l2, .string p.img, .int .i64 p.size] 29)))
  replace hw := belStep hw hb2
  clear hb2 hbel
  generalize (w.alloc (.cells #[.int .i64 R.a, .int .i64 R.b, .int .i64 R.c] 22)).alloc (.cells #[.string p.id, .int .i64 p.prio, .bool p.crit, .int .i64 p.r0, .int .i64 p.r1, .int .i64 p.r2, .int .i64 p.l0, .int .i64 p.l1, .int .i64 p.l2, .string p.img, .int .i64 p.size] 29) = W1 at *
  replace rm0 := keep rm0
  replace rm1 := keep rm1
  replace rm2 := keep rm2
  replace pp0 := keep pp0
  replace pp1 := keep pp1
  replace pp2 := keep pp2
  replace pp3 := keep pp3
  replace pp4 := keep pp4
  replace pp5 := keep pp5
  replace pp6 := keep pp6
  replace pp7 := keep pp7
  replace pp8 := keep pp8
  replace pp9 := keep pp9
  replace pp10 := keep pp10
  have hbel : Below W1.heap.size W1 W1 := Below.refl _ _
  skip
  have HRL := Lib.hid (fun u (hu : Below W1.heap.size W1 u) => HR.out.later (belStep hw hu))
  have HW := Lib.hid hw
  have hsz1 : w.heap.size ≤ W1.heap.size := hw.size
  clear hw hbel
  refine wp_region_held_drew (S := fun u => Below W1.heap.size W1 u) (by kernel_rfl) (by exact (show Below W1.heap.size W1 _ by repeat (first | assumption | exact Below.refl _ _ | refine belDrew ?_ | refine belAlloc ?_ _ | refine belStep ?_ (by assumption)))) (fun hHeld => ?_)
  refine wpAnyH_take (i := 0) (oi := ?oi_k20) (v := ?v_k20) ?hi_k20 (by kernel_rfl) ?hf_k20 ?hr_k20 ?hQ_k20 (Or.inl ⟨?hw_k20, ?hy_k20⟩) (by assumption) ?rest_k20
  case hi_k20 => ((simp only [List.getElem?_toArray, List.getElem?_cons_succ, List.getElem?_cons_zero]); rfl)
  case hf_k20 => kernel_rfl
  case hr_k20 => kernel_rfl
  case hQ_k20 => exact fun _ _ _ h => h
  case hw_k20 => rfl
  case hy_k20 => ((intro w hSw; (try dsimp only at hSw); go_simp); all_goals (with_reducible rfl))
  try simp only [Act.put, List.setIfInBounds_toArray, List.set_cons_zero, List.set_cons_succ]
  refine wpAnyH_take (i := 2) (oi := ?oi_k21) (v := ?v_k21) ?hi_k21 (by kernel_rfl) ?hf_k21 ?hr_k21 ?hQ_k21 (Or.inl ⟨?hw_k21, ?hy_k21⟩) (by assumption) ?rest_k21
  case hi_k21 => ((simp only [List.getElem?_toArray, List.getElem?_cons_succ, List.getElem?_cons_zero]); rfl)
  case hf_k21 => kernel_rfl
  case hr_k21 => kernel_rfl
  case hQ_k21 => exact fun _ _ _ h => h
  case hw_k21 => rfl
  case hy_k21 => ((intro w hSw; (try dsimp only at hSw); go_simp); all_goals (with_reducible rfl))
  try simp only [Act.put, List.setIfInBounds_toArray, List.set_cons_zero, List.set_cons_succ]
  refine wpAnyH_take (i := 4) (oi := ?oi_k22) (v := ?v_k22) ?hi_k22 (by kernel_rfl) ?hf_k22 ?hr_k22 ?hQ_k22 (Or.inl ⟨?hw_k22, ?hy_k22⟩) (by assumption) ?rest_k22
  case hi_k22 => ((simp only [List.getElem?_toArray, List.getElem?_cons_succ, List.getElem?_cons_zero]); rfl)
  case hf_k22 => kernel_rfl
  case hr_k22 => kernel_rfl
  case hQ_k22 => exact fun _ _ _ h => h
  case hw_k22 => rfl
  case hy_k22 => ((intro w hSw; (try dsimp only at hSw); go_simp); all_goals (with_reducible rfl))
  try simp only [Act.put, List.setIfInBounds_toArray, List.set_cons_zero, List.set_cons_succ]
  refine krip (fun u u' => Below u.heap.size u u') [13, 15, 17] [[], [], [], [1], [], [], [1, 3, 5], [1, 3, 5]] [[], [13], [], [15], [], [17], [], []] [1, 3, 5] (krF [(1, fun t u => ∃ g : Nat, t 13 = .slice (some ⟨g, 0, none⟩) 0 0 ∧ OwnR u (W1.heap.size) 29 11 (.slice (some ⟨g, 0, none⟩) 0 0) 0 []), (3, fun t u => OwnR u (W1.heap.size) 29 11 (t 15) (L.length) (L.flatMap PodV.cells)), (5, fun t u => ∃ g : Nat, t 17 = .slice (some ⟨g, 0, none⟩) 1 1 ∧ Row u (some ⟨g, 0, none⟩) 1 1 11 (p.cells))]) 2 #[true, true, true, true, true, true, false, false] (by kernel_rfl) (by kernel_rfl) (by kernel_rfl) (by assumption) (AllL.cons ?s_1_q23 (AllL.cons ?s_3_q23 (AllL.cons ?s_5_q23 AllL.nil))) (AllL.cons ?o_1_q23 (AllL.cons ?o_3_q23 (AllL.cons ?o_5_q23 AllL.nil))) ?e_q23
  case s_1_q23 => exact fun t u u' hle ⟨g, e, h⟩ => ⟨g, e, OwnR.later h hle⟩
  case s_3_q23 => exact fun t u u' hle h => OwnR.later h hle
  case s_5_q23 => exact fun t u u' hle ⟨g, e, h⟩ => ⟨g, e, Row.later h hle⟩
  case o_1_q23 =>
    refine KrOp.of (o := ?oo_1_q23) ?hi_1_q23 (fun t u hHeld hF K hK => ?rr_1_q23)
    case hi_1_q23 => ((simp only [List.getElem?_toArray, List.getElem?_cons_succ, List.getElem?_cons_zero]); rfl)
    case rr_1_q23 =>
      clear hF
      simp only [setl, List.foldl_cons, List.foldl_nil, Act.put, List.setIfInBounds_toArray, List.set_cons_zero, List.set_cons_succ] at hK ⊢
      go_simp
      refine hK.out _ _ (by exact (by repeat (first | assumption | exact Below.refl _ _ | refine belDrew ?_ | refine belAlloc ?_ _ | refine belStep ?_ (by assumption)))) (by exact (show Below W1.heap.size W1 _ by repeat (first | assumption | exact Below.refl _ _ | refine belDrew ?_ | refine belAlloc ?_ _ | refine belStep ?_ (by assumption)))) ?_
      exact ⟨_, rfl, OwnR.mono (own_empty _ _ 11) (Below.size hHeld)⟩
  case o_3_q23 =>
    refine KrOp.of (o := ?oo_3_q23) ?hi_3_q23 (fun t u hHeld hF K hK => ?rr_3_q23)
    case hi_3_q23 => ((simp only [List.getElem?_toArray, List.getElem?_cons_succ, List.getElem?_cons_zero]); rfl)
    case rr_3_q23 =>
      have h1 : ∃ g : Nat, t 13 = .slice (some ⟨g, 0, none⟩) 0 0 ∧ OwnR u (W1.heap.size) 29 11 (.slice (some ⟨g, 0, none⟩) 0 0) 0 [] := hF 1 rfl rfl
      clear hF
      simp only [setl, List.foldl_cons, List.foldl_nil, Act.put, List.setIfInBounds_toArray, List.set_cons_zero, List.set_cons_succ] at hK ⊢
      generalize t 13 = x13 at *
      obtain ⟨g1, rfl, ho1⟩ := h1
      refine op_first rfl _ _ 45 rfl (W1.heap.size) 29 _ 11 104 Try.underlying45 info_pod rfl (by decide) g1 (by rfl) ho1 (a) (L.length) (cap) (L.flatMap PodV.cells) (by rfl) (HRL.out _ hHeld) (pods_one _) (by have := hb; unfold maxLen; omega) (by have := hb; omega) (Below.size hHeld) ?_
      intro v4 w4 ho4 hb4
      refine hK.out _ _ (by exact (by repeat (first | assumption | exact Below.refl _ _ | refine belDrew ?_ | refine belAlloc ?_ _ | refine belStep ?_ (by assumption)))) (by exact (show Below W1.heap.size W1 _ by repeat (first | assumption | exact Below.refl _ _ | refine belDrew ?_ | refine belAlloc ?_ _ | refine belStep ?_ (by assumption)))) ?_
      exact ho4
  case o_5_q23 =>
    refine KrOp.of (o := ?oo_5_q23) ?hi_5_q23 (fun t u hHeld hF K hK => ?rr_5_q23)
    case hi_5_q23 => ((simp only [List.getElem?_toArray, List.getElem?_cons_succ, List.getElem?_cons_zero]); rfl)
    case rr_5_q23 =>
      clear hF
      simp only [setl, List.foldl_cons, List.foldl_nil, Act.put, List.setIfInBounds_toArray, List.set_cons_zero, List.set_cons_succ] at hK ⊢
      go_simp
      refine hK.out _ _ (by exact (by repeat (first | assumption | exact Below.refl _ _ | refine belDrew ?_ | refine belAlloc ?_ _ | refine belStep ?_ (by assumption)))) (by exact (show Below W1.heap.size W1 _ by repeat (first | assumption | exact Below.refl _ _ | refine belDrew ?_ | refine belAlloc ?_ _ | refine belStep ?_ (by assumption)))) ?_
      exact ⟨_, rfl, row_new _ (p.cells) 29 1 11 rfl (by unfold maxLen; omega)⟩
  case e_q23 =>
    intro t u hHeld hF
    have h1 : ∃ g : Nat, t 13 = .slice (some ⟨g, 0, none⟩) 0 0 ∧ OwnR u (W1.heap.size) 29 11 (.slice (some ⟨g, 0, none⟩) 0 0) 0 [] := hF 1 rfl
    have h3 : OwnR u (W1.heap.size) 29 11 (t 15) (L.length) (L.flatMap PodV.cells) := hF 3 rfl
    have h5 : ∃ g : Nat, t 17 = .slice (some ⟨g, 0, none⟩) 1 1 ∧ Row u (some ⟨g, 0, none⟩) 1 1 11 (p.cells) := hF 5 rfl
    clear hF
    simp only [setl, List.foldl_cons, List.foldl_nil, Act.put, List.setIfInBounds_toArray, List.set_cons_zero, List.set_cons_succ]
    generalize t 13 = x13 at *
    generalize t 15 = x15 at *
    generalize t 17 = x17 at *
    obtain ⟨g5, rfl, hr5⟩ := h5
    obtain ⟨g1, rfl, ho1⟩ := h1
    have HO3 := Lib.hid h3
    clear h3
    refine wpAnyH_ready (rs := [6]) (by kernel_rfl) (by simp) ?_
    refine AllReadyH.cons (o := ?o1_ta1) ?hi_ta1 (fun K hK => ?rest_ta1) AllReadyH.nil
    case hi_ta1 => ((simp only [List.getElem?_toArray, List.getElem?_cons_succ, List.getElem?_cons_zero]); rfl)
    refine op_appR rfl _ _ 45 rfl (W1.heap.size) 29 _ 11 104 Try.underlying45 info_pod rfl (by decide) _ (L.length) _ (by rfl) HO3.out _ 1 1 (p.cells) (by rfl) hr5 (pod_one _) (by have := hb; unfold maxLen; omega) (by have := hb; omega) (Below.size hHeld) ?_
    intro v9 u9 ho9 hb9
    have hu9 : Below W1.heap.size W1 u9 := hHeld.trans hb9
    refine hK.out _ _ (by exact hu9) (fun hHeld => ?_)
    clear hK K hb9
    try simp only [Act.put, List.setIfInBounds_toArray, List.set_cons_zero, List.set_cons_succ]
    have CF9 := Lib.hid (rfits_own R (L ++ [p]) u9 (own_snoc ho9) HOK1.out)
    clear ho9
    refine wpAnyH_ready (rs := [7]) (by kernel_rfl) (by simp) ?_
    refine AllReadyH.cons (o := ?o1_k2) ?hi_k2 (fun K hK => ?rest_k2) AllReadyH.nil
    case hi_k2 => ((simp only [List.getElem?_toArray, List.getElem?_cons_succ, List.getElem?_cons_zero]); rfl)
    go_simp
    (go_at_call 37; (with_reducible refine CF9.out.mono ?_); rintro e w10 ⟨rfl, hb10⟩)
    try go_simp
    refine hK.out _ _ (by exact (show Below W1.heap.size W1 _ by repeat (first | assumption | exact Below.refl _ _ | refine belDrew ?_ | refine belAlloc ?_ _ | refine belStep ?_ (by assumption)))) (fun hHeld => ?_)
    clear hK K
    try simp only [Act.put, List.setIfInBounds_toArray, List.set_cons_zero, List.set_cons_succ]
    refine wpAnyH_done (by kernel_rfl) ?_ _
    have hbel : Below W1.heap.size W1 w10 := hHeld
    clear hHeld hu9 CF9
    obtain ⟨b1, e1⟩ : ∃ b, fitsB R (L ++ [p]) = b := ⟨_, rfl⟩
    obtain ⟨b2, e2⟩ : ∃ b, fitsB R (stF L p ++ [p]) = b := ⟨_, rfl⟩
    obtain ⟨M, eM⟩ : ∃ M, sortP (mayF L p) = M := ⟨_, rfl⟩
    obtain ⟨st, est⟩ : ∃ s, stF L p ++ [p] = s := ⟨_, rfl⟩
    have HCF := Lib.hid (show chooseF R L p = if b1 then some [] else if b2 then some (sortS ((goF R st M).map PodV.id)) else none by unfold chooseF; rw [e1, e2, eM, est])
    have HBA := Lib.hid (fun j => eM ▸ best_asked (p := p) HDI.out j)
    have hMl : M.length ≤ L.length := by rw [← eM, sortP_len]; exact List.length_filter_le _ _
    have hstl : st.length ≤ L.length + 1 := by rw [← est, List.length_append]; have := List.length_filter_le (fun v => !mayB p v) L; unfold stF; simp only [List.length_cons, List.length_nil]; omega
    have HOK3 := Lib.hid (show ∀ x ∈ M, x.ok from fun x hx => HOK.out x (List.mem_filter.1 ((sortP_perm _).mem_iff.1 (eM ▸ hx))).1)
    rw [est] at e2 HOK2
    have CFX := Lib.hid (fun u (hu : Below W1.heap.size W1 u) => est ▸ vref_Fixed p a L.length cap L u rfl (HRL.out u hu) (by omega))
    simp only [e1]
    clear e1 eM est
    cases b1 with
    | true =>
      go_wp2
      go_ret2
      exact ⟨.inr ⟨[], _, HCF.out, rfl, OwnR.nil _ _ _ _⟩, HW.out.trans (hbel.mono hsz1)⟩
    | false =>
      go_upto_region 4 with (go_at_call 23; (with_reducible refine (CFX.out _ hbel).mono ?_); rintro e w11 ⟨v8, rfl, hS, hb11⟩)
      replace hS := OwnR.mono hS (Below.size hbel)
      replace hbel := belStep hbel hb11
      clear hb11
      have CF2 := Lib.hid (e2 ▸ rfits_own R st _ hS HOK2.out)
      have HS := Lib.hid hS
      clear hS e2
      cases b2 with
      | false =>
        go_wp2_with (go_at_call 37; (with_reducible refine CF2.out.mono ?_); rintro e w12 ⟨rfl, hb12⟩)
        go_ret2
        exact ⟨.inl ⟨HCF.out, rfl⟩, HW.out.trans ((belStep hbel hb12).mono hsz1)⟩
      | true =>
        go_upto_region 8 with (go_at_call 37; (with_reducible refine CF2.out.mono ?_); rintro e w12 ⟨rfl, hb12⟩)
        replace hbel := belStep hbel hb12
        replace HS := Lib.hid (HS.out.later hb12)
        clear hb12 CF2 CFX
        have CN0 := Lib.hid (next_call p a L.length cap L none 0 0 [] (M[0]?) w12 rfl rfl (HRL.out _ hbel) row_nil (by omega) (by have := HBA.out 0; rw [← this]; rfl))
        go_wp2_with (go_at_call 38; (with_reducible refine CN0.out.mono ?_); rintro e w13 ⟨i13, rfl, hn13, hb13⟩)
        have HN13 := Lib.hid hn13
        have HB13 := Lib.hid (belStep hbel hb13)
        have HS13 := Lib.hid (HS.out.later hb13)
        clear hn13 hb13 hbel HS CN0
        go_loopw [8, 9, 10, 11] (fun s g o n wr => ∃ (j : Nat) (i : Int), j ≤ M.length ∧ n = .int .i64 i ∧ NextI L (M[j]?) i ∧ OwnR wr W1.heap.size 29 11 s (stayF R st (M.take j)).length ((stayF R st (M.take j)).flatMap PodV.cells) ∧ OwnS wr W1.heap.size g ((M.take j).map PodV.id) ∧ OwnS wr W1.heap.size o (sortS ((goF R st (M.take j)).map PodV.id)) ∧ Sep g s ∧ Sep g o ∧ Below W1.heap.size W1 wr) (fun _ g _ _ _ => L.length - sliceLen g)
        case atStart => exact ⟨0, i13, Nat.zero_le _, rfl, HN13.out, HS13.out, OwnR.nil _ _ _ _, by rw [List.take_zero]; show OwnS _ _ _ (sortS []); rw [sortS_nil]; exact OwnR.nil _ _ _ _, Sep.nilL _, Sep.nilL _, HB13.out⟩
        case round =>
          obtain ⟨j, i, hj, rfl, hni, hS, hG, hO, hgs, hgo, hbel⟩ := hrel
          clear HN13 HS13 HB13
          have hls := runF_len R (M.take j) st
          rw [List.length_take] at hls
          obtain ⟨hls1, hls2⟩ := hls
          have hsl := owns_len hG
          rw [List.length_map, List.length_take, Nat.min_eq_left hj] at hsl
          rcases hni with ⟨hmj, rfl⟩ | ⟨kx, x, hmj, hx, rfl⟩
          · have hjM : M.length ≤ j := List.getElem?_eq_none_iff.1 hmj
            obtain rfl : j = M.length := by omega
            rw [List.take_length] at hO
            have HO := Lib.hid hO
            clear hO hG hS hmj hgs hgo
            go_wp2
            go_ret2
            exact ⟨.inr ⟨_, _, HCF.out, rfl, OwnS.mono HO.out hsz1⟩, HW.out.trans (hbel.mono hsz1)⟩
          · have hkl : kx < L.length := (List.getElem?_eq_some_iff.1 hx).1
            have hjM : j < M.length := (List.getElem?_eq_some_iff.1 hmj).1
            have hd : decide ((0 : Int) ≤ (kx : Int)) = true := decide_eq_true (by omega)
            have hd0 : (0 : Int) ≤ (kx : Int) := by omega
            obtain ⟨b, off, rfl, _, hcc⟩ := (HRL.out _ (Below.refl _ _)).elem PodV.cells_len (by omega) hx
            have c0 := keep (hcc 0 _ rfl)
            have c1 := keep (hcc 1 _ rfl)
            have c2 := keep (hcc 2 _ rfl)
            have c3 := keep (hcc 3 _ rfl)
            have c4 := keep (hcc 4 _ rfl)
            have c5 := keep (hcc 5 _ rfl)
            have c6 := keep (hcc 6 _ rfl)
            have c7 := keep (hcc 7 _ rfl)
            have c8 := keep (hcc 8 _ rfl)
            have c9 := keep (hcc 9 _ rfl)
            have c10 := keep (hcc 10 _ rfl)
            rw [Nat.add_zero] at c0
            have HX := Lib.hid hx
            have HMJ := Lib.hid hmj
            obtain ⟨GA, hGA⟩ : ∃ g, (M.take j).map PodV.id = g := ⟨_, rfl⟩
            have hgl : GA.length ≤ 1000 := by rw [← hGA, List.length_map, List.length_take]; omega
            have HGA := Lib.hid hGA
            rw [hGA] at hG
            clear hGA
            have HOX := Lib.hid (HOK3.out x (List.mem_of_getElem? hmj))
            have HG5 := Lib.hid (OwnR.alloc hG (.cells #[.string x.id] 9))
            have HS5 := Lib.hid (OwnR.alloc hS (.cells #[.string x.id] 9))
            have HO5 := Lib.hid (OwnR.alloc hO (.cells #[.string x.id] 9))
            have HRS := Lib.hid (show Row (wr.alloc (.cells #[.string x.id] 9)) (some ⟨wr.heap.size, 0, none⟩) 1 1 1 [.string x.id] from row_new wr [.string x.id] 9 1 1 rfl (by unfold maxLen; omega))
            have HGS := Lib.hid hgs
            have HGO := Lib.hid hgo
            have HSL := Lib.hid hsl
            clear hx hmj hcc hG hS hO hgs hgo hsl
            go_wp2_with (at_builtin; refine wpList_app_sep rfl _ _ 34 rfl W1.heap.size 9 _ 1 16 Try.underlying34 info_string rfl (by decide) _ _ _ rfl HG5.out _ 1 1 [.string x.id] rfl HRS.out (fun u hu => by simp at hu; subst hu; rfl) ?c1 ?c2 ?c3 ?_)
            case c1 => simp only [maxLen]; omega
            case c2 => omega
            case c3 => have h1 := hbel.size; simp; omega
            intro v6 w6 ho6 hb6 hg6 hmv6
            have hN6 := own_text ho6
            have hS6 := OwnR.sep HS5.out hg6 HGS.out
            have hO6 := OwnR.sep HO5.out hg6 HGO.out
            have hgs6 := Moved.sep hmv6 HS5.out HGS.out
            have hgo6 := Moved.sep hmv6 HO5.out HGO.out
            replace hbel := (belAlloc hbel (.cells #[.string x.id] 9)).trans hb6
            clear ho6 hb6 hg6 hmv6 HG5 HS5 HO5 HRS HGS HGO
            rw [← HGA.out, take_map_next HMJ.out] at hN6
            obtain ⟨GB, hGB⟩ : ∃ g, (M.take (j + 1)).map PodV.id = g := ⟨_, rfl⟩
            rw [hGB] at hN6
            have HGM := Lib.hid (show GB.length = j + 1 by rw [← hGB, List.length_map, List.length_take]; omega)
            have hba := HBA.out (j + 1)
            rw [hGB] at hba
            have HBB := Lib.hid hba
            have HGB := Lib.hid hGB
            clear hGB hba
            go_upto_region 11 with fail
            have HB12 := Lib.hid hbel
            have hwW : Below w6.heap.size w6 w6 := Below.refl _ _
            have hw := HW.out
            replace rm0 := keepOnP rm0 hbel
            replace rm1 := keepOnP rm1 hbel
            replace rm2 := keepOnP rm2 hbel
            replace pp0 := keepOnP pp0 hbel
            replace pp1 := keepOnP pp1 hbel
            replace pp2 := keepOnP pp2 hbel
            replace pp3 := keepOnP pp3 hbel
            replace pp4 := keepOnP pp4 hbel
            replace pp5 := keepOnP pp5 hbel
            replace pp6 := keepOnP pp6 hbel
            replace pp7 := keepOnP pp7 hbel
            replace pp8 := keepOnP pp8 hbel
            replace pp9 := keepOnP pp9 hbel
            replace pp10 := keepOnP pp10 hbel
            replace c0 := keepOnP c0 hbel
            replace c1 := keepOnP c1 hbel
            replace c2 := keepOnP c2 hbel
            replace c3 := keepOnP c3 hbel
            replace c4 := keepOnP c4 hbel
            replace c5 := keepOnP c5 hbel
            replace c6 := keepOnP c6 hbel
            replace c7 := keepOnP c7 hbel
            replace c8 := keepOnP c8 hbel
            replace c9 := keepOnP c9 hbel
            replace c10 := keepOnP c10 hbel
            replace hw := belStep hw hbel
            clear hbel
            generalize w6 = W2 at *
            have hbel : Below W2.heap.size W2 W2 := Below.refl _ _
            have hz12 := HB12.out.size
            obtain ⟨az, cs, es, hrs⟩ := rowR_of_own hS6
            subst es
            obtain ⟨ao, co, eo, hro⟩ := rowR_of_own hO6
            subst eo
            obtain ⟨ag, cg, eg, hrg⟩ := rowR_of_own hN6
            subst eg
            have HRS2 := Lib.hid (fun u (hu : Below W2.heap.size W2 u) => Row.later hrs hu)
            have HRO2 := Lib.hid (fun u (hu : Below W2.heap.size W2 u) => Row.later hro hu)
            have HRG2 := Lib.hid (fun u (hu : Below W2.heap.size W2 u) => Row.later hrg hu)
            have HS6 := Lib.hid hS6
            have HO6 := Lib.hid hO6
            have HN6 := Lib.hid hN6
            have HGS6 := Lib.hid hgs6
            have HGO6 := Lib.hid hgo6
            clear hS6 hO6 hN6 hgs6 hgo6 hrs hro hrg hwW
            have CNX := Lib.hid (fun u (hu : Below W2.heap.size W2 u) => next_call p (some ⟨b, off, none⟩) L.length cap L ag _ cg GB (M[j + 1]?) u rfl rfl (HRL.out u (HB12.out.trans (hu.mono hz12))) (HRG2.out u hu) (by omega) HBB.out)
            have hsb : (stayF R st (M.take j)).length ≤ 1000 := by omega
            obtain ⟨SL, hSL⟩ : ∃ s, stayF R st (M.take j) = s := ⟨_, rfl⟩
            have HYES := Lib.hid (step_yes (R := R) (st := st) HMJ.out)
            have HNO := Lib.hid (step_no (R := R) (st := st) HMJ.out)
            have hokx : ∀ y ∈ SL ++ [x], y.ok := fun y hy => by
              rw [← hSL] at hy
              rcases List.mem_append.1 hy with h | h
              · rcases stayF_mem R _ _ y h with h | h
                · exact HOK2.out y h
                · exact HOK3.out y (List.mem_of_mem_take h)
              · simp at h; subst h; exact HOX.out
            have HOKX := Lib.hid hokx
            obtain ⟨GL, hGL⟩ : ∃ s, goF R st (M.take j) = s := ⟨_, rfl⟩
            have hgll : GL.length ≤ 1000 := by rw [← hGL]; omega
            rw [hSL] at HRS2 HS6 HYES HNO HGS6 hsb
            rw [hGL] at HRO2 HO6 HYES HNO HGO6
            simp only [hSL, hGL]
            clear hSL hGL hokx
            have hwr := hbel
            clear hbel
            refine wp_region_held_drew (S := fun u => Below W2.heap.size W2 u) (by kernel_rfl) (by exact (show Below W2.heap.size W2 _ by repeat (first | assumption | exact Below.refl _ _ | refine belDrew ?_ | refine belAlloc ?_ _ | refine belStep ?_ (by assumption)))) (fun hHeld => ?_)
            refine wpAnyH_take (i := 0) (oi := ?oi_k13) (v := ?v_k13) ?hi_k13 (by kernel_rfl) ?hf_k13 ?hr_k13 ?hQ_k13 (Or.inl ⟨?hw_k13, ?hy_k13⟩) (by assumption) ?rest_k13
            case hi_k13 => ((simp only [List.getElem?_toArray, List.getElem?_cons_succ, List.getElem?_cons_zero]); rfl)
            case hf_k13 => kernel_rfl
            case hr_k13 => kernel_rfl
            case hQ_k13 => exact fun _ _ _ h => h
            case hw_k13 => rfl
            case hy_k13 => ((intro w hSw; (try dsimp only at hSw); go_simp); all_goals (with_reducible rfl))
            try simp only [Act.put, List.setIfInBounds_toArray, List.set_cons_zero, List.set_cons_succ]
            refine wpAnyH_take (i := 2) (oi := ?oi_k14) (v := ?v_k14) ?hi_k14 (by kernel_rfl) ?hf_k14 ?hr_k14 ?hQ_k14 (Or.inl ⟨?hw_k14, ?hy_k14⟩) (by assumption) ?rest_k14
            case hi_k14 => ((simp only [List.getElem?_toArray, List.getElem?_cons_succ, List.getElem?_cons_zero]); rfl)
            case hf_k14 => kernel_rfl
            case hr_k14 => kernel_rfl
            case hQ_k14 => exact fun _ _ _ h => h
            case hw_k14 => rfl
            case hy_k14 => ((intro w hSw; (try dsimp only at hSw); go_simp); all_goals (with_reducible rfl))
            try simp only [Act.put, List.setIfInBounds_toArray, List.set_cons_zero, List.set_cons_succ]
            refine wpAnyH_take (i := 4) (oi := ?oi_k15) (v := ?v_k15) ?hi_k15 (by kernel_rfl) ?hf_k15 ?hr_k15 ?hQ_k15 (Or.inl ⟨?hw_k15, ?hy_k15⟩) (by assumption) ?rest_k15
            case hi_k15 => ((simp only [List.getElem?_toArray, List.getElem?_cons_succ, List.getElem?_cons_zero]); rfl)
            case hf_k15 => kernel_rfl
            case hr_k15 => kernel_rfl
            case hQ_k15 => exact fun _ _ _ h => h
            case hw_k15 => rfl
            case hy_k15 => ((intro w hSw; (try dsimp only at hSw); go_simp); all_goals (with_reducible rfl))
            try simp only [Act.put, List.setIfInBounds_toArray, List.set_cons_zero, List.set_cons_succ]
            refine wpAnyH_take (i := 5) (oi := ?oi_k16) (v := ?v_k16) ?hi_k16 (by kernel_rfl) ?hf_k16 ?hr_k16 ?hQ_k16 (Or.inl ⟨?hw_k16, ?hy_k16⟩) (by assumption) ?rest_k16
            case hi_k16 => ((simp only [List.getElem?_toArray, List.getElem?_cons_succ, List.getElem?_cons_zero]); rfl)
            case hf_k16 => kernel_rfl
            case hr_k16 => kernel_rfl
            case hQ_k16 => exact fun _ _ _ h => h
            case hw_k16 => rfl
            case hy_k16 => ((intro w hSw; (try dsimp only at hSw); go_simp); all_goals (with_reducible rfl))
            try simp only [Act.put, List.setIfInBounds_toArray, List.set_cons_zero, List.set_cons_succ]
            refine wpAnyH_take (i := 6) (oi := ?oi_k17) (v := ?v_k17) ?hi_k17 (by kernel_rfl) ?hf_k17 ?hr_k17 ?hQ_k17 (Or.inl ⟨?hw_k17, ?hy_k17⟩) (by assumption) ?rest_k17
            case hi_k17 => ((simp only [List.getElem?_toArray, List.getElem?_cons_succ, List.getElem?_cons_zero]); rfl)
            case hf_k17 => kernel_rfl
            case hr_k17 => kernel_rfl
            case hQ_k17 => exact fun _ _ _ h => h
            case hw_k17 => rfl
            case hy_k17 => ((intro w hSw; (try dsimp only at hSw); go_simp); all_goals (with_reducible rfl))
            try simp only [Act.put, List.setIfInBounds_toArray, List.set_cons_zero, List.set_cons_succ]
            refine wpAnyH_take (i := 7) (oi := ?oi_k18) (v := ?v_k18) ?hi_k18 (by kernel_rfl) ?hf_k18 ?hr_k18 ?hQ_k18 (Or.inl ⟨?hw_k18, ?hy_k18⟩) (by assumption) ?rest_k18
            case hi_k18 => ((simp only [List.getElem?_toArray, List.getElem?_cons_succ, List.getElem?_cons_zero]); rfl)
            case hf_k18 => kernel_rfl
            case hr_k18 => kernel_rfl
            case hQ_k18 => exact fun _ _ _ h => h
            case hw_k18 => rfl
            case hy_k18 => ((intro w hSw; (try dsimp only at hSw); go_simp); all_goals (with_reducible rfl))
            try simp only [Act.put, List.setIfInBounds_toArray, List.set_cons_zero, List.set_cons_succ]
            refine krip (fun u u' => Below u.heap.size u u') [42, 44, 49] [[], [], [], [1], [], [], [], [], [], [1, 3, 8], [1, 3, 8]] [[], [42], [], [44], [], [], [], [], [49], [], []] [1, 3, 8] (krF [(1, fun t u => ∃ g : Nat, t 42 = .slice (some ⟨g, 0, none⟩) 0 0 ∧ OwnR u (W2.heap.size) 29 11 (.slice (some ⟨g, 0, none⟩) 0 0) 0 []), (3, fun t u => OwnR u (W2.heap.size) 29 11 (t 44) (SL.length) (SL.flatMap PodV.cells)), (8, fun t u => ∃ g : Nat, t 49 = .slice (some ⟨g, 0, none⟩) 1 1 ∧ Row u (some ⟨g, 0, none⟩) 1 1 11 (x.cells))]) 2 #[true, true, true, true, true, true, true, true, true, false, false] (by kernel_rfl) (by kernel_rfl) (by kernel_rfl) (by assumption) (AllL.cons ?s_1_q19 (AllL.cons ?s_3_q19 (AllL.cons ?s_8_q19 AllL.nil))) (AllL.cons ?o_1_q19 (AllL.cons ?o_3_q19 (AllL.cons ?o_8_q19 AllL.nil))) ?e_q19
            case s_1_q19 => exact fun t u u' hle ⟨g, e, h⟩ => ⟨g, e, OwnR.later h hle⟩
            case s_3_q19 => exact fun t u u' hle h => OwnR.later h hle
            case s_8_q19 => exact fun t u u' hle ⟨g, e, h⟩ => ⟨g, e, Row.later h hle⟩
            case o_1_q19 =>
              refine KrOp.of (o := ?oo_1_q19) ?hi_1_q19 (fun t u hHeld hF K hK => ?rr_1_q19)
              case hi_1_q19 => ((simp only [List.getElem?_toArray, List.getElem?_cons_succ, List.getElem?_cons_zero]); rfl)
              case rr_1_q19 =>
                clear hF
                simp only [setl, List.foldl_cons, List.foldl_nil, Act.put, List.setIfInBounds_toArray, List.set_cons_zero, List.set_cons_succ] at hK ⊢
                go_simp
                refine hK.out _ _ (by exact (by repeat (first | assumption | exact Below.refl _ _ | refine belDrew ?_ | refine belAlloc ?_ _ | refine belStep ?_ (by assumption)))) (by exact (show Below W2.heap.size W2 _ by repeat (first | assumption | exact Below.refl _ _ | refine belDrew ?_ | refine belAlloc ?_ _ | refine belStep ?_ (by assumption)))) ?_
                exact ⟨_, rfl, OwnR.mono (own_empty _ _ 11) (Below.size hHeld)⟩
            case o_3_q19 =>
              refine KrOp.of (o := ?oo_3_q19) ?hi_3_q19 (fun t u hHeld hF K hK => ?rr_3_q19)
              case hi_3_q19 => ((simp only [List.getElem?_toArray, List.getElem?_cons_succ, List.getElem?_cons_zero]); rfl)
              case rr_3_q19 =>
                have h1 : ∃ g : Nat, t 42 = .slice (some ⟨g, 0, none⟩) 0 0 ∧ OwnR u (W2.heap.size) 29 11 (.slice (some ⟨g, 0, none⟩) 0 0) 0 [] := hF 1 rfl rfl
                clear hF
                simp only [setl, List.foldl_cons, List.foldl_nil, Act.put, List.setIfInBounds_toArray, List.set_cons_zero, List.set_cons_succ] at hK ⊢
                generalize t 42 = x42 at *
                obtain ⟨g1, rfl, ho1⟩ := h1
                refine op_first rfl _ _ 45 rfl (W2.heap.size) 29 _ 11 104 Try.underlying45 info_pod rfl (by decide) g1 (by rfl) ho1 (az) (SL.length) (cs) (SL.flatMap PodV.cells) (by rfl) (HRS2.out _ hHeld) (pods_one _) (by have := hsb; unfold maxLen; omega) (by have := hsb; omega) (Below.size hHeld) ?_
                intro v4 w4 ho4 hb4
                refine hK.out _ _ (by exact (by repeat (first | assumption | exact Below.refl _ _ | refine belDrew ?_ | refine belAlloc ?_ _ | refine belStep ?_ (by assumption)))) (by exact (show Below W2.heap.size W2 _ by repeat (first | assumption | exact Below.refl _ _ | refine belDrew ?_ | refine belAlloc ?_ _ | refine belStep ?_ (by assumption)))) ?_
                exact ho4
            case o_8_q19 =>
              refine KrOp.of (o := ?oo_8_q19) ?hi_8_q19 (fun t u hHeld hF K hK => ?rr_8_q19)
              case hi_8_q19 => ((simp only [List.getElem?_toArray, List.getElem?_cons_succ, List.getElem?_cons_zero]); rfl)
              case rr_8_q19 =>
                clear hF
                simp only [setl, List.foldl_cons, List.foldl_nil, Act.put, List.setIfInBounds_toArray, List.set_cons_zero, List.set_cons_succ] at hK ⊢
                go_simp
                refine hK.out _ _ (by exact (by repeat (first | assumption | exact Below.refl _ _ | refine belDrew ?_ | refine belAlloc ?_ _ | refine belStep ?_ (by assumption)))) (by exact (show Below W2.heap.size W2 _ by repeat (first | assumption | exact Below.refl _ _ | refine belDrew ?_ | refine belAlloc ?_ _ | refine belStep ?_ (by assumption)))) ?_
                exact ⟨_, rfl, row_new _ (x.cells) 29 1 11 rfl (by unfold maxLen; omega)⟩
            case e_q19 =>
              intro t u hHeld hF
              have h1 : ∃ g : Nat, t 42 = .slice (some ⟨g, 0, none⟩) 0 0 ∧ OwnR u (W2.heap.size) 29 11 (.slice (some ⟨g, 0, none⟩) 0 0) 0 [] := hF 1 rfl
              have h3 : OwnR u (W2.heap.size) 29 11 (t 44) (SL.length) (SL.flatMap PodV.cells) := hF 3 rfl
              have h8 : ∃ g : Nat, t 49 = .slice (some ⟨g, 0, none⟩) 1 1 ∧ Row u (some ⟨g, 0, none⟩) 1 1 11 (x.cells) := hF 8 rfl
              clear hF
              simp only [setl, List.foldl_cons, List.foldl_nil, Act.put, List.setIfInBounds_toArray, List.set_cons_zero, List.set_cons_succ]
              generalize t 42 = x42 at *
              generalize t 44 = x44 at *
              generalize t 49 = x49 at *
              obtain ⟨g8, rfl, hr8⟩ := h8
              obtain ⟨g1, rfl, ho1⟩ := h1
              have HO3 := Lib.hid h3
              clear h3
              refine wpAnyH_ready (rs := [9]) (by kernel_rfl) (by simp) ?_
              refine AllReadyH.cons (o := ?o1_ta3) ?hi_ta3 (fun K hK => ?rest_ta3) AllReadyH.nil
              case hi_ta3 => ((simp only [List.getElem?_toArray, List.getElem?_cons_succ, List.getElem?_cons_zero]); rfl)
              refine op_appR rfl _ _ 45 rfl (W2.heap.size) 29 _ 11 104 Try.underlying45 info_pod rfl (by decide) _ (SL.length) _ (by rfl) HO3.out _ 1 1 (x.cells) (by rfl) hr8 (pod_one _) (by have := hsb; unfold maxLen; omega) (by have := hsb; omega) (Below.size hHeld) ?_
              intro v9 u9 ho9 hb9
              have hu9 : Below W2.heap.size W2 u9 := hHeld.trans hb9
              refine hK.out _ _ (by exact hu9) (fun hHeld => ?_)
              clear hK K hb9
              try simp only [Act.put, List.setIfInBounds_toArray, List.set_cons_zero, List.set_cons_succ]
              obtain ⟨bf, ebf⟩ : ∃ b, fitsB R (SL ++ [x]) = b := ⟨_, rfl⟩
              have CF9 := Lib.hid (ebf ▸ rfits_own R (SL ++ [x]) u9 (own_snoc ho9) HOKX.out)
              clear ho9
              refine wpAnyH_ready (rs := [10]) (by kernel_rfl) (by simp) ?_
              refine AllReadyH.cons (o := ?o1_k4) ?hi_k4 (fun K hK => ?rest_k4) AllReadyH.nil
              case hi_k4 => ((simp only [List.getElem?_toArray, List.getElem?_cons_succ, List.getElem?_cons_zero]); rfl)
              go_simp
              (go_at_call 37; (with_reducible refine CF9.out.mono ?_); rintro e w10 ⟨rfl, hb10⟩)
              try go_simp
              refine hK.out _ _ (by exact (show Below W2.heap.size W2 _ by repeat (first | assumption | exact Below.refl _ _ | refine belDrew ?_ | refine belAlloc ?_ _ | refine belStep ?_ (by assumption)))) (fun hHeld => ?_)
              clear hK K
              try simp only [Act.put, List.setIfInBounds_toArray, List.set_cons_zero, List.set_cons_succ]
              refine wpAnyH_done (by kernel_rfl) ?_ _
              have hbel : Below W2.heap.size W2 w10 := hHeld
              clear hHeld hu9 CF9
              cases bf with
              | true =>
                have HY := Lib.hid (HYES.out ebf)
                clear ebf HYES HNO
                go_upto_region 12 with fail
                clear hbel
                refine wp_region_held_drew (S := fun u => Below W2.heap.size W2 u) (by kernel_rfl) (by exact (show Below W2.heap.size W2 _ by repeat (first | assumption | exact Below.refl _ _ | refine belDrew ?_ | refine belAlloc ?_ _ | refine belStep ?_ (by assumption)))) (fun hHeld => ?_)
                refine wpAnyH_take (i := 1) (oi := ?oi_k7) (v := ?v_k7) ?hi_k7 (by kernel_rfl) ?hf_k7 ?hr_k7 ?hQ_k7 (Or.inl ⟨?hw_k7, ?hy_k7⟩) (by assumption) ?rest_k7
                case hi_k7 => ((simp only [List.getElem?_toArray, List.getElem?_cons_succ, List.getElem?_cons_zero]); rfl)
                case hf_k7 => kernel_rfl
                case hr_k7 => kernel_rfl
                case hQ_k7 => exact fun _ _ _ h => h
                case hw_k7 => rfl
                case hy_k7 => ((intro w hSw; (try dsimp only at hSw); go_simp); all_goals (with_reducible rfl))
                try simp only [Act.put, List.setIfInBounds_toArray, List.set_cons_zero, List.set_cons_succ]
                refine wpAnyH_take (i := 3) (oi := ?oi_k8) (v := ?v_k8) ?hi_k8 (by kernel_rfl) ?hf_k8 ?hr_k8 ?hQ_k8 (Or.inl ⟨?hw_k8, ?hy_k8⟩) (by assumption) ?rest_k8
                case hi_k8 => ((simp only [List.getElem?_toArray, List.getElem?_cons_succ, List.getElem?_cons_zero]); rfl)
                case hf_k8 => kernel_rfl
                case hr_k8 => kernel_rfl
                case hQ_k8 => exact fun _ _ _ h => h
                case hw_k8 => rfl
                case hy_k8 => ((intro w hSw; (try dsimp only at hSw); go_simp); all_goals (with_reducible rfl))
                try simp only [Act.put, List.setIfInBounds_toArray, List.set_cons_zero, List.set_cons_succ]
                refine wpAnyH_take (i := 4) (oi := ?oi_k9) (v := ?v_k9) ?hi_k9 (by kernel_rfl) ?hf_k9 ?hr_k9 ?hQ_k9 (Or.inl ⟨?hw_k9, ?hy_k9⟩) (by assumption) ?rest_k9
                case hi_k9 => ((simp only [List.getElem?_toArray, List.getElem?_cons_succ, List.getElem?_cons_zero]); rfl)
                case hf_k9 => kernel_rfl
                case hr_k9 => kernel_rfl
                case hQ_k9 => exact fun _ _ _ h => h
                case hw_k9 => rfl
                case hy_k9 => ((intro w hSw; (try dsimp only at hSw); go_simp); all_goals (with_reducible rfl))
                try simp only [Act.put, List.setIfInBounds_toArray, List.set_cons_zero, List.set_cons_succ]
                refine wpAnyH_take (i := 5) (oi := ?oi_k10) (v := ?v_k10) ?hi_k10 (by kernel_rfl) ?hf_k10 ?hr_k10 ?hQ_k10 (Or.inl ⟨?hw_k10, ?hy_k10⟩) (by assumption) ?rest_k10
                case hi_k10 => ((simp only [List.getElem?_toArray, List.getElem?_cons_succ, List.getElem?_cons_zero]); rfl)
                case hf_k10 => kernel_rfl
                case hr_k10 => kernel_rfl
                case hQ_k10 => exact fun _ _ _ h => h
                case hw_k10 => rfl
                case hy_k10 => ((intro w hSw; (try dsimp only at hSw); go_simp); all_goals (with_reducible rfl))
                try simp only [Act.put, List.setIfInBounds_toArray, List.set_cons_zero, List.set_cons_succ]
                refine wpAnyH_take (i := 6) (oi := ?oi_k11) (v := ?v_k11) ?hi_k11 (by kernel_rfl) ?hf_k11 ?hr_k11 ?hQ_k11 (Or.inl ⟨?hw_k11, ?hy_k11⟩) (by assumption) ?rest_k11
                case hi_k11 => ((simp only [List.getElem?_toArray, List.getElem?_cons_succ, List.getElem?_cons_zero]); rfl)
                case hf_k11 => kernel_rfl
                case hr_k11 => kernel_rfl
                case hQ_k11 => exact fun _ _ _ h => h
                case hw_k11 => rfl
                case hy_k11 => ((intro w hSw; (try dsimp only at hSw); go_simp); all_goals (with_reducible rfl))
                try simp only [Act.put, List.setIfInBounds_toArray, List.set_cons_zero, List.set_cons_succ]
                refine krip (fun u u' => Below u.heap.size u u') [52, 54, 59] [[], [], [0], [], [], [], [], [], [0, 2, 7], [0, 2, 7]] [[52], [], [54], [], [], [], [], [59], [], []] [0, 2, 7] (krF [(0, fun t u => ∃ g : Nat, t 52 = .slice (some ⟨g, 0, none⟩) 0 0 ∧ OwnR u (W2.heap.size) 29 11 (.slice (some ⟨g, 0, none⟩) 0 0) 0 []), (2, fun t u => OwnR u (W2.heap.size) 29 11 (t 54) (SL.length) (SL.flatMap PodV.cells)), (7, fun t u => ∃ g : Nat, t 59 = .slice (some ⟨g, 0, none⟩) 1 1 ∧ Row u (some ⟨g, 0, none⟩) 1 1 11 (x.cells))]) 2 #[true, true, true, true, true, true, true, true, false, false] (by kernel_rfl) (by kernel_rfl) (by kernel_rfl) (by assumption) (AllL.cons ?s_0_q12 (AllL.cons ?s_2_q12 (AllL.cons ?s_7_q12 AllL.nil))) (AllL.cons ?o_0_q12 (AllL.cons ?o_2_q12 (AllL.cons ?o_7_q12 AllL.nil))) ?e_q12
                case s_0_q12 => exact fun t u u' hle ⟨g, e, h⟩ => ⟨g, e, OwnR.later h hle⟩
                case s_2_q12 => exact fun t u u' hle h => OwnR.later h hle
                case s_7_q12 => exact fun t u u' hle ⟨g, e, h⟩ => ⟨g, e, Row.later h hle⟩
                case o_0_q12 =>
                  refine KrOp.of (o := ?oo_0_q12) ?hi_0_q12 (fun t u hHeld hF K hK => ?rr_0_q12)
                  case hi_0_q12 => ((simp only [List.getElem?_toArray, List.getElem?_cons_succ, List.getElem?_cons_zero]); rfl)
                  case rr_0_q12 =>
                    clear hF
                    simp only [setl, List.foldl_cons, List.foldl_nil, Act.put, List.setIfInBounds_toArray, List.set_cons_zero, List.set_cons_succ] at hK ⊢
                    go_simp
                    refine hK.out _ _ (by exact (by repeat (first | assumption | exact Below.refl _ _ | refine belDrew ?_ | refine belAlloc ?_ _ | refine belStep ?_ (by assumption)))) (by exact (show Below W2.heap.size W2 _ by repeat (first | assumption | exact Below.refl _ _ | refine belDrew ?_ | refine belAlloc ?_ _ | refine belStep ?_ (by assumption)))) ?_
                    exact ⟨_, rfl, OwnR.mono (own_empty _ _ 11) (Below.size hHeld)⟩
                case o_2_q12 =>
                  refine KrOp.of (o := ?oo_2_q12) ?hi_2_q12 (fun t u hHeld hF K hK => ?rr_2_q12)
                  case hi_2_q12 => ((simp only [List.getElem?_toArray, List.getElem?_cons_succ, List.getElem?_cons_zero]); rfl)
                  case rr_2_q12 =>
                    have h0 : ∃ g : Nat, t 52 = .slice (some ⟨g, 0, none⟩) 0 0 ∧ OwnR u (W2.heap.size) 29 11 (.slice (some ⟨g, 0, none⟩) 0 0) 0 [] := hF 0 rfl rfl
                    clear hF
                    simp only [setl, List.foldl_cons, List.foldl_nil, Act.put, List.setIfInBounds_toArray, List.set_cons_zero, List.set_cons_succ] at hK ⊢
                    generalize t 52 = x52 at *
                    obtain ⟨g0, rfl, ho0⟩ := h0
                    refine op_first rfl _ _ 45 rfl (W2.heap.size) 29 _ 11 104 Try.underlying45 info_pod rfl (by decide) g0 (by rfl) ho0 (az) (SL.length) (cs) (SL.flatMap PodV.cells) (by rfl) (HRS2.out _ hHeld) (pods_one _) (by have := hsb; unfold maxLen; omega) (by have := hsb; omega) (Below.size hHeld) ?_
                    intro v4 w4 ho4 hb4
                    refine hK.out _ _ (by exact (by repeat (first | assumption | exact Below.refl _ _ | refine belDrew ?_ | refine belAlloc ?_ _ | refine belStep ?_ (by assumption)))) (by exact (show Below W2.heap.size W2 _ by repeat (first | assumption | exact Below.refl _ _ | refine belDrew ?_ | refine belAlloc ?_ _ | refine belStep ?_ (by assumption)))) ?_
                    exact ho4
                case o_7_q12 =>
                  refine KrOp.of (o := ?oo_7_q12) ?hi_7_q12 (fun t u hHeld hF K hK => ?rr_7_q12)
                  case hi_7_q12 => ((simp only [List.getElem?_toArray, List.getElem?_cons_succ, List.getElem?_cons_zero]); rfl)
                  case rr_7_q12 =>
                    clear hF
                    simp only [setl, List.foldl_cons, List.foldl_nil, Act.put, List.setIfInBounds_toArray, List.set_cons_zero, List.set_cons_succ] at hK ⊢
                    go_simp
                    refine hK.out _ _ (by exact (by repeat (first | assumption | exact Below.refl _ _ | refine belDrew ?_ | refine belAlloc ?_ _ | refine belStep ?_ (by assumption)))) (by exact (show Below W2.heap.size W2 _ by repeat (first | assumption | exact Below.refl _ _ | refine belDrew ?_ | refine belAlloc ?_ _ | refine belStep ?_ (by assumption)))) ?_
                    exact ⟨_, rfl, row_new _ (x.cells) 29 1 11 rfl (by unfold maxLen; omega)⟩
                case e_q12 =>
                  intro t u hHeld hF
                  have h0 : ∃ g : Nat, t 52 = .slice (some ⟨g, 0, none⟩) 0 0 ∧ OwnR u (W2.heap.size) 29 11 (.slice (some ⟨g, 0, none⟩) 0 0) 0 [] := hF 0 rfl
                  have h2 : OwnR u (W2.heap.size) 29 11 (t 54) (SL.length) (SL.flatMap PodV.cells) := hF 2 rfl
                  have h7 : ∃ g : Nat, t 59 = .slice (some ⟨g, 0, none⟩) 1 1 ∧ Row u (some ⟨g, 0, none⟩) 1 1 11 (x.cells) := hF 7 rfl
                  clear hF
                  simp only [setl, List.foldl_cons, List.foldl_nil, Act.put, List.setIfInBounds_toArray, List.set_cons_zero, List.set_cons_succ]
                  generalize t 52 = x52 at *
                  generalize t 54 = x54 at *
                  generalize t 59 = x59 at *
                  obtain ⟨g7, rfl, hr7⟩ := h7
                  obtain ⟨g0, rfl, ho0⟩ := h0
                  have HO2 := Lib.hid h2
                  clear h2
                  refine wpAnyH_ready (rs := [8]) (by kernel_rfl) (by simp) ?_
                  refine AllReadyH.cons (o := ?o1_ta5) ?hi_ta5 (fun K hK => ?rest_ta5) AllReadyH.nil
                  case hi_ta5 => ((simp only [List.getElem?_toArray, List.getElem?_cons_succ, List.getElem?_cons_zero]); rfl)
                  refine op_appR rfl _ _ 45 rfl (W2.heap.size) 29 _ 11 104 Try.underlying45 info_pod rfl (by decide) _ (SL.length) _ (by rfl) HO2.out _ 1 1 (x.cells) (by rfl) hr7 (pod_one _) (by have := hsb; unfold maxLen; omega) (by have := hsb; omega) (Below.size hHeld) ?_
                  intro v9 u9 ho9 hb9
                  have hu9 : Below W2.heap.size W2 u9 := hHeld.trans hb9
                  refine hK.out _ _ (by exact hu9) (fun hHeld => ?_)
                  clear hK K hb9
                  try simp only [Act.put, List.setIfInBounds_toArray, List.set_cons_zero, List.set_cons_succ]
                  refine wpAnyH_take (i := 9) (oi := ?oi_k6) (v := ?v_k6) ?hi_k6 (by kernel_rfl) ?hf_k6 ?hr_k6 ?hQ_k6 (Or.inl ⟨?hw_k6, ?hy_k6⟩) (by assumption) ?rest_k6
                  case hi_k6 => ((simp only [List.getElem?_toArray, List.getElem?_cons_succ, List.getElem?_cons_zero]); rfl)
                  case hf_k6 => kernel_rfl
                  case hr_k6 => kernel_rfl
                  case hQ_k6 => exact fun _ _ _ h => h
                  case hw_k6 => rfl
                  case hy_k6 => ((intro w hSw; (try dsimp only at hSw); go_simp); all_goals (with_reducible rfl))
                  try simp only [Act.put, List.setIfInBounds_toArray, List.set_cons_zero, List.set_cons_succ]
                  refine wpAnyH_done (by kernel_rfl) ?_ _
                  have hbel : Below W2.heap.size W2 u9 := hu9
                  clear hHeld hu9
                  have HS9 := Lib.hid (own_snoc ho9)
                  have HGN := Lib.hid (sep_new HN6.out ho9 (Nat.le_refl _))
                  clear ho9
                  go_wp2_with (go_at_call 38; (with_reducible refine (CNX.out _ hbel).mono ?_); rintro e w14 ⟨i14, rfl, hn14, hb14⟩)
                  have HN14 := Lib.hid hn14
                  have HB14 := Lib.hid (belStep hbel hb14)
                  replace HS9 := Lib.hid (HS9.out.later hb14)
                  clear hn14 hb14 hbel
                  go_roundw
                  case rel => exact ⟨j + 1, i14, by omega, rfl, HN14.out, by rw [HY.out.1]; exact OwnR.mono HS9.out hz12, by rw [HGB.out]; exact OwnS.later HN6.out HB14.out, by rw [HY.out.2]; exact OwnS.later HO6.out HB14.out, HGN.out, HGO6.out, HB12.out.trans (HB14.out.mono hz12)⟩
                  case measure => rw [HSL.out]; simp [sliceLen]; have := HGM.out; omega
              | false =>
                have HY := Lib.hid (HNO.out ebf)
                clear ebf HYES HNO
                have CPT := Lib.hid (fun u (hu : Below W2.heap.size W2 u) => vref_put ao _ co (sortS (GL.map PodV.id)) x.id u rfl (HRO2.out u hu) (by rw [sortS_len, List.length_map]; exact hgll))
                go_wp2_with (first | (go_at_call 39; (with_reducible refine (CPT.out _ hbel).mono ?_); rintro e w13 ⟨v13, rfl, ho13, hb13⟩; have HP13 := Lib.hid (OwnS.mono ho13 (Below.size hbel)); replace hbel := belStep hbel hb13; clear ho13 hb13) | (go_at_call 38; (with_reducible refine (CNX.out _ hbel).mono ?_); rintro e w14 ⟨i14, rfl, hn14, hb14⟩))
                have HN14 := Lib.hid hn14
                have HB14 := Lib.hid (belStep hbel hb14)
                have HGN := Lib.hid (sep_new HN6.out HP13.out (Nat.le_refl _))
                replace HP13 := Lib.hid (OwnS.later HP13.out hb14)
                clear hn14 hb14 hbel
                go_roundw
                case rel => exact ⟨j + 1, i14, by omega, rfl, HN14.out, by rw [HY.out.1]; exact OwnR.later HS6.out HB14.out, by rw [HGB.out]; exact OwnS.later HN6.out HB14.out, by rw [HY.out.2, List.map_append, List.map_cons, List.map_nil, ← put_sorts]; exact OwnS.mono HP13.out hz12, HGS6.out, HGN.out, HB12.out.trans (HB14.out.mono hz12)⟩
                case measure => rw [HSL.out]; simp [sliceLen]; have := HGM.out; omega
end Go.Proofs.Ytafojeeehehplaa
