
/- Stage 10: what DiskModel means: plain laws. -/
import Derived.Test.YtcnjcldfbidkmaaDkMs
namespace Go.Proofs.Ytcnjcldfbidkmaa
open Go.RowKit Go.Sort Go.Maps
set_option linter.unusedVariables false
set_option linter.unusedSimpArgs false
theorem Free.sub {X Y : List Nat} {u w : World} (h : Free X u w) (hs : ∀ b ∈ Y, b ∈ X) : Free Y u w := by
  obtain ⟨F, hA, hF⟩ := h
  exact ⟨F, hA, fun b hb => hF b (hs b hb)⟩
theorem Free.blkM {X : List Nat} {u w : World} {M : Nat} {C : List Value} {T : TypeId} (h : Free X u w) (hb : Blk u M C T) (hX : M ∈ X) : Blk w M C T := by
  obtain ⟨F, hA, hF⟩ := h
  exact hb.apart hA (hF M hX)
structure ModM (w0 : World) (d : DiskV) (K : List FileV) (T : List OpV) (k : Nat) : Prop where
  files : d.files = K.map FileV.m
  done : d.done = ownsW T
  good : GoodD d
  cnt : d.cap + d.done.length ≤ k
  klen : K.length + T.length ≤ k
  ops : ∀ o ∈ T, rightM o.m = true ∧ OpOK w0 o
theorem ModM.look {w0 : World} {d : DiskV} {K : List FileV} {T : List OpV} {k : Nat} (h : ModM w0 d K T k) : d.look = (T.map OpV.m).foldl applyF (K.map FileV.m) := by
  unfold DiskV.look
  rw [h.files, h.done]
  exact owns_look T _ (fun o ho => (h.ops o ho).1)
theorem ModM.tlen {w0 : World} {d : DiskV} {K : List FileV} {T : List OpV} {k : Nat} (h : ModM w0 d K T k) : d.done.length = T.length := by rw [h.done]; unfold ownsW; rw [List.length_map]
theorem ModM.up {w0 : World} {d : DiskV} {K : List FileV} {T : List OpV} {k : Nat} (h : ModM w0 d K T k) : ModM w0 d K T (k + 1) := ⟨h.files, h.done, h.good, Nat.le_succ_of_le h.cnt, Nat.le_succ_of_le h.klen, h.ops⟩
theorem right_kind {o : MOp} (h : rightM o = true) : o.kind = 1 ∨ o.kind = 2 ∨ o.kind = 3 := by
  unfold rightM at h
  by_cases h1 : o.kind = 1
  · exact .inl h1
  · rw [if_neg h1] at h
    by_cases h2 : o.kind = 2
    · exact .inr (.inl h2)
    · rw [if_neg h2] at h
      by_cases h3 : o.kind = 3
      · exact .inr (.inr h3)
      · rw [if_neg h3] at h; cases h
theorem ModM.do {w0 : World} {d : DiskV} {K : List FileV} {T : List OpV} {k : Nat} (h : ModM w0 d K T k) (o : OpV) (hr : rightM o.m = true) (ho : o.good w0) (hz : o.Z.length ≤ 1000) : ModM w0 (doW d o.m) K (T ++ [o]) (k + 1) := by
  refine ⟨(doW_files _ _).trans h.files, ?_, h.good.do _, ?_, (by have := h.klen; rw [List.length_append, List.length_singleton]; omega), fun x hx => ?_⟩
  · unfold doW ownsW; rw [hr, if_pos rfl]; dsimp only; rw [h.done, List.map_append]; rfl
  · have h1 := doW_len d o.m; have h2 := doW_cap d o.m; have h3 := h.cnt; omega
  · rcases List.mem_append.1 hx with q | q
    · exact h.ops x q
    · rw [List.mem_singleton] at q; subst q; exact ⟨hr, ho, hz, right_kind hr⟩
theorem doW_cnt (d : DiskV) (o : MOp) : (doW d o).cap + (doW d o).done.length ≤ d.cap + d.done.length + 1 := by have h1 := doW_len d o; have h2 := doW_cap d o; omega
theorem do_wrong {d : DiskV} {o : MOp} (h : rightM o = false) : doW d o = d := by unfold doW; rw [h]; rfl
theorem len_foldA : ∀ (D : List MOp) (L : List FileM), (D.foldl applyF L).length ≤ L.length + D.length
  | [], _ => Nat.le_refl _
  | o :: D, L => by have h1 := len_foldA D (applyF L o); have h2 := len_apply L o; rw [List.foldl_cons, List.length_cons]; omega
theorem len_foldC : ∀ (D : List (MOp × Int)) (L : List FileM), (D.foldl crashS L).length ≤ L.length + D.length
  | [], _ => Nat.le_refl _
  | p :: D, L => by
    have h1 := len_foldC D (crashS L p)
    have h2 : (crashS L p).length ≤ L.length + 1 := by unfold crashS; split; omega; exact len_apply _ _
    rw [List.foldl_cons, List.length_cons]; omega
end Go.Proofs.Ytcnjcldfbidkmaa
