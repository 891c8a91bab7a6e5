
/- Stage 11: what the laws share. -/
import Derived.Test.YtcbblgeleboggaaCk7
namespace Go.Proofs.Ytcbblgeleboggaa
open Go.RowKit Go.Sort Go.Maps
set_option linter.unusedVariables false
set_option linter.unusedSimpArgs false
theorem ck_doK (B M : Nat) (X : List Nat) (d : DiskV) (w : World) (h : DKv B w M X d) (hX : ∀ b ∈ X, b < w.heap.size) (hB : B ≤ w.heap.size) (hc : d.cap + d.done.length ≤ 100000) (a : Option Addr) (zn cap : Nat) (Z : List Int) (hzn : Z.length = zn) (hZ : Ints .u8 w a zn cap Z) (hl : zn ≤ 1000000) :
    Calls Try.prog 21 #[.pointer (some ⟨M, 0, none⟩), .agg #[.int .i64 1, .string ⟨#[109, 97, 105, 110]⟩, .string ⟨#[]⟩, .slice a zn cap]] w fun e w' => e = .returned (.int .i64 0) ∧ DKv B w' M X (doW d (kOp Z)) ∧ Below B w w' ∧ Free X w w' := by
  subst hzn
  exact (dl_Do B M X _ w h hX hB hc ⟨1, ⟨#[109, 97, 105, 110]⟩, ⟨#[]⟩, a, cap, Z⟩ hZ hl ⟨show (⟨#[109, 97, 105, 110]⟩ : ByteArray).size ≤ maxLen by decide +kernel, show (⟨#[]⟩ : ByteArray).size ≤ maxLen by decide +kernel, ⟨show (-9223372036854775808 : Int) ≤ 1 by omega, show (1 : Int) ≤ 9223372036854775807 by omega⟩⟩).mono (by rintro e wq ⟨h1, h2, h3⟩; exact ⟨h1.trans (congrArg (fun z => Ending.returned (.int .i64 z)) (e_k Z)), h2, h3⟩)
theorem ck_doT (B M : Nat) (X : List Nat) (d : DiskV) (w : World) (h : DKv B w M X d) (hX : ∀ b ∈ X, b < w.heap.size) (hB : B ≤ w.heap.size) (hc : d.cap + d.done.length ≤ 100000) (a : Option Addr) (zn cap : Nat) (Z : List Int) (hzn : Z.length = zn) (hZ : Ints .u8 w a zn cap Z) (hl : zn ≤ 1000000) :
    Calls Try.prog 21 #[.pointer (some ⟨M, 0, none⟩), .agg #[.int .i64 1, .string ⟨#[116, 101, 109, 112]⟩, .string ⟨#[]⟩, .slice a zn cap]] w fun e w' => e = .returned (.int .i64 0) ∧ DKv B w' M X (doW d (wOp Z)) ∧ Below B w w' ∧ Free X w w' := by
  subst hzn
  exact (dl_Do B M X _ w h hX hB hc ⟨1, ⟨#[116, 101, 109, 112]⟩, ⟨#[]⟩, a, cap, Z⟩ hZ hl ⟨show (⟨#[116, 101, 109, 112]⟩ : ByteArray).size ≤ maxLen by decide +kernel, show (⟨#[]⟩ : ByteArray).size ≤ maxLen by decide +kernel, ⟨show (-9223372036854775808 : Int) ≤ 1 by omega, show (1 : Int) ≤ 9223372036854775807 by omega⟩⟩).mono (by rintro e wq ⟨h1, h2, h3⟩; exact ⟨h1.trans (congrArg (fun z => Ending.returned (.int .i64 z)) (e_w Z)), h2, h3⟩)
theorem open_1 (l : List Int) : syncW (doW (ckD 0 none none) (kOp l)) = ckD 1 (some l) none := by
  rw [d_k]
  show (⟨applyF (ckF none none) (kOp l), [], 0 + 1⟩ : DiskV) = ⟨ckF (some l) none, [], 1⟩
  rw [a_k, ckF_putM]
theorem open_2 (l m : List Int) : syncW (doW (doW (ckD 0 none none) (kOp l)) (wOp m)) = ckD 2 (some l) (some m) := by
  rw [d_k, d_w]
  show (⟨applyF (applyF (ckF none none) (kOp l)) (wOp m), [], 0 + 2⟩ : DiskV) = ⟨ckF (some l) (some m), [], 2⟩
  rw [a_k, ckF_putM, a_w, ckF_putT]
theorem cap_1 (l : List Int) : (doW (ckD 0 none none) (kOp l)).cap + (doW (ckD 0 none none) (kOp l)).done.length ≤ 100000 := by rw [d_k]; show 0 + 1 ≤ 100000; omega
theorem cap_2 (l m : List Int) : (doW (doW (ckD 0 none none) (kOp l)) (wOp m)).cap + (doW (doW (ckD 0 none none) (kOp l)) (wOp m)).done.length ≤ 100000 := by rw [d_k, d_w]; show 0 + 2 ≤ 100000; omega
/-- What has been saved behind k saves. -/
def savedF (L : List BodyV) : Nat → Option (List Int)
  | 0 => none
  | k + 1 => (L[k]?).map (fun x => frameL (k + 1) x.Z)
theorem savedF_next {L : List BodyV} {k : Nat} {x : BodyV} (h : L[k]? = some x) : savedF L (k + 1) = some (frameL (k + 1) x.Z) := by show Option.map _ L[k]? = _; rw [h]; rfl
theorem same_self (a : Option Addr) (k cap : Nat) (l : List Int) (b : Option Addr) (cap2 : Nat) (w : World) (hl : Ints .u8 w a k cap l) (h2 : Ints .u8 w b k cap2 l) : Calls Try.prog 15 #[.slice a k cap, .slice b k cap2] w fun e w' => e = .returned (.bool true) ∧ w = w' := (beq_self_eq_true l) ▸ sref_Same a k cap l b k cap2 l w hl h2
theorem ref_Put (v : Nat) (a : Option Addr) (len cap : Nat) (l : List Int) (w : World) (hv : v + 1 < 4294967296) (hl : Ints .u8 w a len cap l) (hlen : len ≤ 900000) :
    Calls Try.prog 16 #[.int .i64 ((v : Int) + 1), .slice a len cap] w fun e w' => ∃ a2 c2, e = .returned (.slice a2 (len + 16) c2) ∧ Ints .u8 w' a2 (len + 16) c2 (frameL (v + 1) l) ∧ Below w.heap.size w w' := fref_Put (v + 1) a len cap l w hv hl hlen
theorem Free.ownV {u w : World} {X : List Nat} {B k n : Nat} {E : TypeId} {v : Value} {cs : List Value} (h : Free X u w) (ho : OwnR u B E k v n cs) (hX : ∀ b, v.ownBlock = some b → b ∈ X) : OwnR w B E k v n cs := by
  obtain ⟨F, hA, hF⟩ := h
  exact own_same ho (fun g e => hA.block g (own_type ho e).2.1 (hF g (hX g e)))
theorem mem_ownB {v : Value} {b : Nat} : v.ownBlock = some b ↔ b ∈ v.ownBlock.toList := by simp [Option.mem_toList]
end Go.Proofs.Ytcbblgeleboggaa
