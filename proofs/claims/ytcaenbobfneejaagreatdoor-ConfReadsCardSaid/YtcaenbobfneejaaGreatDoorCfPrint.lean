
/- Stage 7: the fields of a config's text; rows of rows that grow: plain laws. Stage 7: conf.row: contract. Stage 7: rows that grow by one. Stage 7: conf.Print: contract. Stage 7: a config's text: plain laws. Stage 7: bilgeref07.Print: contract. -/
import Derived.Test.YtcaenbobfneejaaGreatDoorCfRead
import Derived.Test.YtcaenbobfneejaaGreatDoorThrPr
import Derived.Test.YtcaenbobfneejaaGreatDoorQuantB
import Derived.Test.YtcaenbobfneejaaGreatDoorLexRM
import Derived.Test.YtcaenbobfneejaaGreatDoorLexTM
import Derived.Test.YtcaenbobfneejaaGreatDoorKrip
import Derived.Test.YtcaenbobfneejaaGreatDoorThrBackM
import Derived.Test.YtcaenbobfneejaaGreatDoorThrR
import Derived.Test.YtcaenbobfneejaaGreatDoorCfRight
import Derived.Test.YtcaenbobfneejaaGreatDoorLexJoin
namespace Go.Proofs.YtcaenbobfneejaaGreatDoor
open Go.RowKit
set_option linter.unusedVariables false
set_option linter.unusedSimpArgs false
def wordV (l : List UInt8) : FldV := ⟨l, 0, 0⟩
def rowL (j : Nat) (ns : List Int) : List FldV := wordV (kwL j) :: ns.map (fun n => wordV (prAll n).data.toList)
def thrL (t : ThrV) : List FldV := [wordV tkw, wordV (prThr t).data.toList]
/-- P7.2: the lines of a config's text. -/
def printC (c : CfM) : List (List FldV) := [rowL 0 [c.k0, c.k1, c.k2], rowL 1 [c.a0, c.a1, c.a2]] ++ c.T.map thrL ++ [rowL 2 [c.per], rowL 3 [c.ret], rowL 4 [c.age], rowL 5 [c.dead]]
section
variable {P : Program} {w : World} {o : Oper} {a : Act} {K : Act → World → Prop} {Q : Exit → Act → World → Prop} {E : Prop}
theorem run_app_oldZ {P : Program} (w : World) (t ty : TypeId) (B : Nat) (e : TypeId) (i : TypeInfo) (z : Value) (size : Nat) (ht : P.underlying t = some (.slice e)) (hi : P.info? e = some i) (hz : i.zero = some z)
    (hsize : i.size = size) (hzs : z.cells.size = size) (hsz : 0 < size)
    (v : Value) (n : Nat) (xs : List Value) (hown : w.ownsRow B e size v n xs)
    (a : Addr) (m c : Nat) (news : List Value) (hl : news.length = m * size) (hnews : ∀ j u, news[j]? = some u → w.cell? (a.add j) = some u) (h1 : ∀ u ∈ news, u.oneCell' = true)
    (h63 : n + m ≤ maxLen) (hbytes : (n + m) * i.bytes ≤ 140737488355328) {v' : Value} {w' : World} (hr : (Builtin.append_ #[t, t] ty #[v, .slice (some a) m c]).run P w = .ok v' w') : w'.ownsRow B e size v n xs := by
  have hsmall : n + m ≤ 9223372036854775807 := by simp only [maxLen] at h63; omega
  have hown' := hown
  rcases hown.2 with ⟨rfl, rfl⟩ | ⟨g, cap, cur, rfl, hbg, hg, hnc, hcm, hcs, htake⟩
  · have hx : xs = [] := List.eq_nil_of_length_eq_zero (by simpa using hown.1)
    subst hx
    exact World.ownsRow_nil w' _ e size
  · by_cases hroom : n + m ≤ cap
    · obtain ⟨w2, hr2, h2⟩ := run_append_fits (P := P) w B t ty e i size ht hi hsize g n cap xs hown' a m c news hl hnews h1 hroom
      rw [hr] at hr2
      cases hr2
      have h3 := h2.1
      rcases h3.2 with ⟨q, _⟩ | ⟨g2, cap2, cur2, q1, q2, q3, q4, q5, q6, q7⟩
      · cases q
      · simp only [Value.slice.injEq, Option.some.injEq, Addr.mk.injEq, and_true, true_and] at q1
        obtain ⟨rfl, rfl⟩ := q1
        refine ⟨hown.1, .inr ⟨g, cap, cur2, rfl, hbg, q3, hnc, hcm, q6, ?_⟩⟩
        have h4 := congrArg (List.take (n * size)) q7
        rw [List.take_take, Nat.min_eq_left (by rw [Nat.add_mul]; omega), List.take_append_of_le_length (by rw [hown.1]; exact Nat.le_refl _), List.take_of_length_le (l := xs) (by rw [hown.1]; exact Nat.le_refl _)] at h4
        exact h4
    · subst hsize
      have holds : ∀ j u, xs[j]? = some u → w.cell? ((⟨g, 0, none⟩ : Addr).add j) = some u := World.ownsRow.cells hown' (g := g) rfl
      have hr2 := run_append_grow (P := P) w t ty e i z ht hi hz ⟨g, 0, none⟩ n cap xs hown'.1 holds a m c news hl hnews (by omega) (by omega) (growslice_fits (by omega) hbytes)
      rw [hr] at hr2
      cases hr2
      exact OwnR.alloc (OwnR.later (show OwnR w B e i.size (.slice (some ⟨g, 0, none⟩) n cap) n xs from hown') (belDrew (Below.refl _ _))) _
theorem op_appZ {ops : Array Oper} {tm : Array Value} (hg : o.guard = none) (s x : Operand) (t : TypeId)
    (ho : o.op = .call { callee := .builtin .append, args := #[s, x], argTypes := #[t, t] })
    (B : Nat) (e : TypeId) (z : Value) (size bytes : Nat) (ht : P.underlying t = some (.slice e)) (hi : (P.info? e).map (fun i => (i.zero, i.size, i.bytes)) = some (some z, size, bytes))
    (hzs : z.cells.size = size) (hsz : 0 < size)
    (v : Value) (n : Nat) (cs : List Value) (hs : a.eval s = v) (hown : OwnR w B e size v n cs)
    (ad : Addr) (len cap : Nat) (ds : List Value) (hx : a.eval x = .slice (some ad) len cap) (hr : Row w (some ad) len cap size ds) (hone : ∀ u ∈ ds, u.oneCell' = true)
    (hm : n + len ≤ maxLen) (hby : (n + len) * bytes ≤ 140737488355328) (hB : B ≤ w.heap.size)
    (h : ∀ v' w', OwnR w' B e size v' (n + len) (cs ++ ds) → w.grownBy w' v.ownBlock → OwnR w' B e size v n cs → Below B w w' → K (a.put o.dst v') w') : if Region.wanted o (yielded ops tm) = true then Oper.wp P o a w K Q else E := by
  have hw : Region.wanted o (yielded ops tm) = true := by simp [Region.wanted, hg]
  rw [if_pos hw]
  obtain ⟨i, hi0, hz, hszi, hbs⟩ : ∃ i, P.info? e = some i ∧ i.zero = some z ∧ i.size = size ∧ i.bytes = bytes := by
    cases hp : P.info? e with
    | none => rw [hp] at hi; simp at hi
    | some i => rw [hp] at hi; simp at hi; exact ⟨i, rfl, hi.1, hi.2.1, hi.2.2⟩
  have hnews := row_news hr
  obtain ⟨r1, r2, r3, r4, r5⟩ := hr
  obtain ⟨v', w', hrun, h2, h3, _⟩ := run_append_own (P := P) w B t o.type e i z size bytes ht hi0 hz hszi hbs hzs hsz v n cs hown ad len cap ds r1 hnews hone hm hby hB
  have hmv := run_app_oldZ w t o.type B e i z size ht hi0 hz hszi hzs hsz v n cs hown ad len cap ds r1 hnews hone hm (by rw [hbs]; exact hby) hrun
  unfold Oper.wp execOp
  simp only [ho, resolve, invoke, builtin, Sem.run_bind, Sem.run_pure, Result.andThen_ok, List.map_toArray, List.map_cons, List.map_nil, hs, hx, hrun]
  exact h v' w' h2 h3 hmv ((Below.refl B w).grown h3 hB fun q hq => (World.ownsRow.lt hown q hq).1)
end
/-- More rows behind those that are there. -/
theorem RowsF.adds {w w' : World} {B : Nat} {v v' : Value} {LL FF : List (List FldV)} {vs us : List Value} (h : RowsF w B v LL vs) (hlen : us.length = FF.length) (ho : OwnR w' B 43 1 v' (LL.length + FF.length) (vs ++ us)) (hg : w.grownBy w' v.ownBlock)
    (hin : ∀ (i : Nat) (F : List FldV) (u : Value), FF[i]? = some F → us[i]? = some u → OwnR w B 45 3 u F.length (F.flatMap FldV.cells)) (hss : ∀ (i j : Nat) (u x : Value), us[i]? = some u → us[j]? = some x → i ≠ j → Sep u x)
    (hcs : ∀ (i j : Nat) (u x : Value), vs[i]? = some u → us[j]? = some x → Sep u x) : RowsF w' B v' (LL ++ FF) (vs ++ us) := by
  have hl := h.len
  have hk : ∀ (F : List FldV) (u : Value), OwnR w B 45 3 u F.length (F.flatMap FldV.cells) → OwnR w' B 45 3 u F.length (F.flatMap FldV.cells) := fun F u hy => OwnR.sep hy hg (own_type_sep h.out hy (by decide))
  refine ⟨by rw [List.length_append]; exact ho, fun i F u h1 h2 => ?_, fun i j u x h1 h2 hne => ?_⟩
  · rcases Nat.lt_or_ge i LL.length with q | q
    · rw [List.getElem?_append_left q] at h1
      rw [List.getElem?_append_left (by omega)] at h2
      exact hk F u (h.inn i F u h1 h2)
    · rw [List.getElem?_append_right q] at h1
      rw [List.getElem?_append_right (by omega), hl] at h2
      exact hk F u (hin _ F u h1 h2)
  · rcases Nat.lt_or_ge i vs.length with q | q
    · rw [List.getElem?_append_left q] at h1
      rcases Nat.lt_or_ge j vs.length with p | p
      · rw [List.getElem?_append_left p] at h2
        exact h.sep i j u x h1 h2 hne
      · rw [List.getElem?_append_right p] at h2
        exact hcs i _ u x h1 h2
    · rw [List.getElem?_append_right q] at h1
      rcases Nat.lt_or_ge j vs.length with p | p
      · rw [List.getElem?_append_left p] at h2
        exact (hcs j _ x u h2 h1).symm
      · rw [List.getElem?_append_right p] at h2
        exact hss _ _ u x h1 h2 (by omega)
theorem RowsF.old {w w' : World} {B : Nat} {v : Value} {LL : List (List FldV)} {vs : List Value} (h : RowsF w B v LL vs) (ho : OwnR w' B 43 1 v LL.length vs) (hg : w.grownBy w' v.ownBlock) : RowsF w' B v LL vs :=
  ⟨ho, fun i F u h1 h2 => OwnR.sep (h.inn i F u h1 h2) hg (own_type_sep h.out (h.inn i F u h1 h2) (by decide)), h.sep⟩
theorem own_blkR {w : World} {B g n k : Nat} {C : List Value} {T : TypeId} (h : Blk w g C T) (hB : B ≤ g) (hl : C.length = n * k) (hn : n ≤ maxLen) : OwnR w B T k (.slice (some ⟨g, 0, none⟩) n n) n C :=
  ⟨hl, .inr ⟨g, n, C.toArray, rfl, hB, h, Nat.le_refl _, hn, by simp [hl], by simp [← hl]⟩⟩
end Go.Proofs.YtcaenbobfneejaaGreatDoor
namespace Go.Proofs.YtcaenbobfneejaaGreatDoor
open Go.RowKit Go.Sort
set_option linter.unusedVariables false
set_option linter.unusedSimpArgs false
theorem bA_dl (b : ByteArray) : bA b.data.toList = b := by cases b; unfold bA; rfl
theorem wordV_cells (l : List UInt8) : (wordV l).cells = [.string (bA l), .int .i64 0, .int .i64 0] := rfl
theorem rowL_len (j : Nat) (ns : List Int) : (rowL j ns).length = ns.length + 1 := by unfold rowL; simp
theorem rowL_next {j : Nat} {ns : List Int} {m : Nat} {n : Int} (h : ns[m]? = some n) : (rowL j (ns.take (m + 1))).flatMap FldV.cells = (rowL j (ns.take m)).flatMap FldV.cells ++ [.string (prAll n), .int .i64 0, .int .i64 0] := by
  unfold rowL
  rw [List.take_add_one, h, List.map_append, ← List.cons_append, List.flatMap_append]
  congr 1
theorem row1_at {w : World} {a : Option Addr} {n c : Nat} {cs : List Value} (h : Row w a n c 1 cs) {k : Nat} {x : Value} (hx : cs[k]? = some x) : ∃ b o, a = some ⟨b, o, none⟩ ∧ w.cell? ⟨b, o + k, none⟩ = some x := by
  obtain ⟨_, _, _, _, rfl | ⟨b, o, rfl, hf⟩⟩ := h
  · cases hx
  · exact ⟨b, o, rfl, by rw [hf k (by rw [List.getElem?_eq_some_iff] at hx; exact hx.1), hx]⟩
set_option maxRecDepth 100000 in
set_option maxHeartbeats 16000000 in
theorem cf_row (j : Nat) (ns : List Int) (na : Option Addr) (nc : Nat) (w : World) (hN : Row w na ns.length nc 1 (ns.map (Value.int .i64))) (hi : ∀ n ∈ ns, InI n) (ht : Tab w) (hB : ns.length ≤ 3) :
    Calls Tryz.prog 23 #[.string (kwB j), .slice na ns.length nc] w fun e w' => ∃ v, e = .returned v ∧ OwnR w' w.heap.size 45 3 v (rowL j ns).length ((rowL j ns).flatMap FldV.cells) ∧ Below w.heap.size w w' := by
  have HN := Lib.hid hN
  have HI := Lib.hid hi
  have HT := Lib.hid ht
  have hc : nc ≤ 9223372036854775807 := by obtain ⟨_, _, h2, _⟩ := hN; unfold maxLen at h2; exact h2
  have hlc : ns.length ≤ nc := hN.2.1
  have HX := Lib.hid hB
  clear hN hi ht
  go_enter Tryz.func23, Tryz.ntmps23
  go_wp2
  have hbel := belAlloc (Below.refl w.heap.size w) (.cells #[.string (kwB j), .int .i64 0, .int .i64 0] 45)
  have HB := Lib.hid hbel
  have HO := Lib.hid (show OwnR (w.alloc (.cells #[.string (kwB j), .int .i64 0, .int .i64 0] 45)) w.heap.size 45 3 (.slice (some ⟨w.heap.size, 0, none⟩) 1 1) 1 ((rowL j (ns.take 0)).flatMap FldV.cells) from own_blkR (Blk.new w [.string (kwB j), .int .i64 0, .int .i64 0] 45) (Nat.le_refl _) rfl (by decide))
  clear hbel
  go_loopw [5, 13] (fun s i wr => ∃ k : Nat, k ≤ ns.length ∧ i = .int .i64 k ∧ Hid (OwnR wr w.heap.size 45 3 s (k + 1) ((rowL j (ns.take k)).flatMap FldV.cells)) ∧ Hid (Below w.heap.size w wr)) (fun _ i _ => ns.length - (intOf i).toNat)
  case atStart => exact ⟨0, Nat.zero_le _, rfl, HO, HB⟩
  case round =>
    clear HO HB
    obtain ⟨k, hk, rfl, HO, HB⟩ := hrel
    obtain ⟨sa, sc, es, _⟩ := rowR_of_own HO.out
    subst es
    by_cases hlt : k < ns.length
    · have hd : decide ((k : Int) < (ns.length : Int)) = true := decide_eq_true (by omega)
      have hki : (k : Int) < (ns.length : Int) := by omega
      have hk0 : (0 : Int) ≤ (k : Int) := by omega
      obtain ⟨n, hn⟩ : ∃ n, ns[k]? = some n := ⟨ns[k], List.getElem?_eq_getElem hlt⟩
      obtain ⟨fb, fo, ef, hcc⟩ := row1_at (Row.later HN.out HB.out) (show (ns.map (Value.int .i64))[k]? = some (.int .i64 n) by rw [List.getElem?_map, hn]; rfl)
      subst ef
      have hin := HI.out n (List.mem_of_getElem? hn)
      have HQ := Lib.hid (fun u hu => quant_Print n u hin hu)
      have HT2 := Lib.hid (HT.out.later HB.out)
      have HNX := Lib.hid (rowL_next (j := j) hn)
      clear hn hin
      go_wp2_with (first | (go_at_call 42; (with_reducible refine (HQ.out _ HT2.out).mono ?_); rintro e w3 ⟨rfl, hb3⟩; have HB3 := Lib.hid hb3; have HBA := Lib.hid (belAlloc (belStep HB.out hb3) (.cells #[.string (prAll n), .int .i64 0, .int .i64 0] 45)); have HRX := Lib.hid (show Row (w3.alloc (.cells #[.string (prAll n), .int .i64 0, .int .i64 0] 45)) (some ⟨w3.heap.size, 0, none⟩) 1 1 3 [.string (prAll n), .int .i64 0, .int .i64 0] from row_of_blkN (n := 1) (k := 3) (Blk.new w3 [.string (prAll n), .int .i64 0, .int .i64 0] 45) rfl (by decide)); have HO2 := Lib.hid ((HO.out.later hb3).alloc (.cells #[.string (prAll n), .int .i64 0, .int .i64 0] 45)); clear hb3) | (at_builtin; refine wpList_app_sep rfl _ _ 43 rfl w.heap.size 45 _ 3 32 Tryz.underlying43 info_fld rfl (by decide) _ (k + 1) _ rfl HO2.out _ 1 1 [.string (prAll n), .int .i64 0, .int .i64 0] rfl HRX.out (fun u hu => by simp at hu; rcases hu with rfl | rfl <;> rfl) ?c1 ?c2 ?c3 ?_))
      case c1 => simp only [maxLen]; omega
      case c2 => omega
      case c3 => exact HBA.out.size
      intro v2 w2 ho2 hb2 hg2 _
      rw [← HNX.out] at ho2
      have HP := Lib.hid ho2
      have HB2 := Lib.hid (HBA.out.trans hb2)
      clear ho2 hb2 hg2
      go_wp2
      go_roundw
      case rel => exact ⟨k + 1, by omega, by push_cast; rfl, HP, HB2⟩
      case measure => simp [intOf] <;> omega
    · obtain rfl : k = ns.length := by omega
      have hd : decide ((ns.length : Int) < (ns.length : Int)) = false := decide_eq_false (by omega)
      rw [List.take_length] at HO
      go_wp2
      go_ret
      exact ⟨_, rfl, by rw [rowL_len]; exact HO.out, HB.out⟩
end Go.Proofs.YtcaenbobfneejaaGreatDoor
namespace Go.Proofs.YtcaenbobfneejaaGreatDoor
open Go.RowKit Go.Sort
set_option linter.unusedVariables false
set_option linter.unusedSimpArgs false
theorem own_at {w : World} {B : Nat} {e : TypeId} {k : Nat} {v : Value} {n : Nat} {cs : List Value} (h : OwnR w B e k v n cs) : ∀ b, v.ownBlock = some b → B ≤ b ∧ b < w.heap.size := by
  intro b hb
  rcases h.2 with ⟨rfl, _⟩ | ⟨g, c, cur, rfl, hg, hh, _⟩
  · cases hb
  · cases hb
    exact ⟨hg, by
      rcases Nat.lt_or_ge g w.heap.size with l | l
      · exact l
      · rw [Array.getElem?_eq_none l] at hh; cases hh⟩
theorem own_sep {w w' : World} {B B' : Nat} {e e' : TypeId} {k k' : Nat} {v v' : Value} {n n' : Nat} {cs cs' : List Value} (h : OwnR w B e k v n cs) (h' : OwnR w' B' e' k' v' n' cs') (hB : w.heap.size ≤ B') : Sep v v' := fun b h1 h2 => by
  have p := own_at h b h1
  have q := own_at h' b h2
  omega
theorem flds_len (F : List FldV) : (F.flatMap FldV.cells).length = F.length * 3 := by
  induction F with
  | nil => rfl
  | cons a r ih => rw [List.flatMap_cons, List.length_append, ih, List.length_cons]; simp [FldV.cells]; omega
theorem RowsF.one {w w2 : World} {B : Nat} {v v2 : Value} {LL : List (List FldV)} {vs : List Value} {F : List FldV} {n : Nat} (C : List Value) (o2 : Obj) (hC : F.flatMap FldV.cells = C) (hn : F.length = n) (hF : n ≤ maxLen) (h : RowsF w B v LL vs) (hB : B ≤ w.heap.size) (ho : OwnR w2 B 43 1 v2 (LL.length + 1) (vs ++ [.slice (some ⟨w.heap.size, 0, none⟩) n n])) (hg : ((w.alloc (.cells C.toArray 45)).alloc o2).grownBy w2 v.ownBlock) : RowsF w2 B v2 (LL ++ [F]) (vs ++ [.slice (some ⟨w.heap.size, 0, none⟩) n n]) := by
  subst hC
  subst hn
  have hown : OwnR ((w.alloc (.cells (F.flatMap FldV.cells).toArray 45)).alloc o2) B 45 3 (.slice (some ⟨w.heap.size, 0, none⟩) F.length F.length) F.length (F.flatMap FldV.cells) := (own_blkR (Blk.new w _ _) hB (flds_len F) hF).alloc o2
  refine RowsF.adds (FF := [F]) ((h.alloc _).alloc o2) rfl ho hg (fun i G u h1 h2 => ?_) (fun i j u x h1 h2 hne => ?_) (fun i j u x h1 h2 => ?_)
  · match i, h1, h2 with
    | 0, h1, h2 => cases h1; cases h2; exact hown
  · match i, j, h1, h2, hne with
    | 0, 0, _, _, hne => exact absurd rfl hne
  · match j, h2 with
    | 0, h2 =>
      cases h2
      obtain ⟨G, hG⟩ : ∃ G, LL[i]? = some G := ⟨_, List.getElem?_eq_getElem (by rw [← h.len]; exact (List.getElem?_eq_some_iff.1 h1).1)⟩
      intro b h3 h4
      have p := own_at (h.inn i G u hG h1) b h3
      have q : w.heap.size = b := by simpa [Value.ownBlock] using h4
      omega
theorem row_in {w : World} {g : Nat} {Cs : List Value} {T : TypeId} (h : Blk w g Cs T) (o n : Nat) (cs : List Value) (hcs : (Cs.drop o).take n = cs) (hl : cs.length = n) (hm : n ≤ maxLen) : Row w (some ⟨g, o, none⟩) n n 1 cs := by
  refine ⟨by omega, Nat.le_refl _, hm, (fun q => by cases q), .inr ⟨g, o, rfl, fun i hi => ?_⟩⟩
  have hx : cs[i]? = some cs[i] := List.getElem?_eq_getElem hi
  rw [hx]
  refine h.cell ?_
  rw [← hx, ← hcs, List.getElem?_take_of_lt (by omega), List.getElem?_drop]
theorem rows_two {w : World} {B : Nat} {v a b : Value} {F G : List FldV} (ho : OwnR w B 43 1 v 2 [a, b]) (h0 : OwnR w B 45 3 a F.length (F.flatMap FldV.cells)) (h1 : OwnR w B 45 3 b G.length (G.flatMap FldV.cells)) (hs : Sep a b) : RowsF w B v [F, G] [a, b] := by
  refine ⟨ho, fun i X u p q => ?_, fun i j u x p q hne => ?_⟩
  · match i, p, q with
    | 0, p, q => cases p; cases q; exact h0
    | 1, p, q => cases p; cases q; exact h1
  · match i, j, p, q, hne with
    | 0, 0, _, _, hne => exact absurd rfl hne
    | 1, 1, _, _, hne => exact absurd rfl hne
    | 0, 1, p, q, _ => cases p; cases q; exact hs
    | 1, 0, p, q, _ => cases p; cases q; exact hs.symm
theorem blk_new2 (w : World) (o : Obj) (C : List Value) (T : TypeId) : Blk ((w.alloc o).alloc (.cells C.toArray T)) (w.heap.size + 1) C T := by
  have h := Blk.new (w.alloc o) C T
  have e : (w.alloc o).heap.size = w.heap.size + 1 := by simp
  rw [e] at h
  exact h
theorem RowsF.more4 {w0 w w' : World} {B : Nat} {v v' a b c d : Value} {LL : List (List FldV)} {vs : List Value} {F G H I : List FldV} (h0 : RowsF w0 B v LL vs) (hB : B ≤ w0.heap.size) (hb : RowsF w B v LL vs)
    (p1 : OwnR w w0.heap.size 45 3 a F.length (F.flatMap FldV.cells)) (p2 : OwnR w w0.heap.size 45 3 b G.length (G.flatMap FldV.cells)) (p3 : OwnR w w0.heap.size 45 3 c H.length (H.flatMap FldV.cells)) (p4 : OwnR w w0.heap.size 45 3 d I.length (I.flatMap FldV.cells))
    (s12 : Sep a b) (s13 : Sep a c) (s14 : Sep a d) (s23 : Sep b c) (s24 : Sep b d) (s34 : Sep c d) (ho : OwnR w' B 43 1 v' (LL.length + 4) (vs ++ [a, b, c, d])) (hg : w.grownBy w' v.ownBlock) : RowsF w' B v' (LL ++ [F, G, H, I]) (vs ++ [a, b, c, d]) := by
  have hin : ∀ (i : Nat) (X : List FldV) (u : Value), [F, G, H, I][i]? = some X → [a, b, c, d][i]? = some u → OwnR w w0.heap.size 45 3 u X.length (X.flatMap FldV.cells) := fun i X u p q => by
    match i, p, q with
    | 0, p, q => cases p; cases q; exact p1
    | 1, p, q => cases p; cases q; exact p2
    | 2, p, q => cases p; cases q; exact p3
    | 3, p, q => cases p; cases q; exact p4
  refine RowsF.adds (FF := [F, G, H, I]) hb rfl ho hg (fun i X u p q => OwnR.mono (hin i X u p q) hB) (fun i j u x p q hne => ?_) (fun i j u x p q => ?_)
  · match i, j, p, q, hne with
    | 0, 0, _, _, hne => exact absurd rfl hne
    | 1, 1, _, _, hne => exact absurd rfl hne
    | 2, 2, _, _, hne => exact absurd rfl hne
    | 3, 3, _, _, hne => exact absurd rfl hne
    | 0, 1, p, q, _ => cases p; cases q; exact s12
    | 0, 2, p, q, _ => cases p; cases q; exact s13
    | 0, 3, p, q, _ => cases p; cases q; exact s14
    | 1, 2, p, q, _ => cases p; cases q; exact s23
    | 1, 3, p, q, _ => cases p; cases q; exact s24
    | 2, 3, p, q, _ => cases p; cases q; exact s34
    | 1, 0, p, q, _ => cases p; cases q; exact s12.symm
    | 2, 0, p, q, _ => cases p; cases q; exact s13.symm
    | 3, 0, p, q, _ => cases p; cases q; exact s14.symm
    | 2, 1, p, q, _ => cases p; cases q; exact s23.symm
    | 3, 1, p, q, _ => cases p; cases q; exact s24.symm
    | 3, 2, p, q, _ => cases p; cases q; exact s34.symm
  · obtain ⟨X, hX⟩ : ∃ X, LL[i]? = some X := ⟨_, List.getElem?_eq_getElem (by rw [← h0.len]; exact (List.getElem?_eq_some_iff.1 p).1)⟩
    have hj : j < 4 := (List.getElem?_eq_some_iff.1 q).1
    obtain ⟨Y, hY⟩ : ∃ Y, [F, G, H, I][j]? = some Y := ⟨_, List.getElem?_eq_getElem hj⟩
    exact own_sep (h0.inn i X u hX p) (hin j Y x hY q) (Nat.le_refl _)
structure SPz (W2 W : World) (v : Value) (LL : List (List FldV)) (vs : List Value) (u : World) : Prop where
  bel : Below W2.heap.size W2 u
  sz : W.heap.size ≤ u.heap.size
  rows : RowsF u W2.heap.size v LL vs
theorem SPz.step {W2 W u u' : World} {v : Value} {LL : List (List FldV)} {vs : List Value} (h : SPz W2 W v LL vs u) (hb : Below u.heap.size u u') : SPz W2 W v LL vs u' := ⟨belStep h.bel hb, Nat.le_trans h.sz hb.size, h.rows.later hb⟩
theorem SPz.app {W2 W u u' : World} {v : Value} {LL : List (List FldV)} {vs : List Value} (h : SPz W2 W v LL vs u) (ho : OwnR u' W2.heap.size 43 1 v LL.length vs) (hg : u.grownBy u' v.ownBlock) (hb : Below W2.heap.size u u') : SPz W2 W v LL vs u' := ⟨h.bel.trans hb, Nat.le_trans h.sz hb.size, h.rows.old ho hg⟩
theorem right_of (c : CfM) (h : rightM c = true) : c.T.length ≤ 12 ∧ ∀ t ∈ c.T, t.right = true := by
  unfold rightM at h
  simp only [Bool.and_eq_true] at h
  have h2 := h.1.2
  unfold thrM at h2
  simp only [Bool.and_eq_true, decide_eq_true_eq, List.all_eq_true] at h2
  exact ⟨h2.2, h2.1⟩
def headC (c : CfM) : List (List FldV) := [rowL 0 [c.k0, c.k1, c.k2], rowL 1 [c.a0, c.a1, c.a2]]
def upTo (c : CfM) (k : Nat) : List (List FldV) := headC c ++ (c.T.take k).map thrL
theorem upTo_len (c : CfM) (k : Nat) (h : k ≤ c.T.length) : (upTo c k).length = k + 2 := by unfold upTo headC; simp; omega
theorem upTo_next (c : CfM) (k : Nat) {x : ThrV} (h : c.T[k]? = some x) : upTo c k ++ [thrL x] = upTo c (k + 1) := by unfold upTo; rw [List.take_add_one, h]; simp
def tailC (c : CfM) : List (List FldV) := [rowL 2 [c.per], rowL 3 [c.ret], rowL 4 [c.age], rowL 5 [c.dead]]
theorem printC_is (c : CfM) : upTo c c.T.length ++ tailC c = printC c := by unfold upTo headC tailC printC; rw [List.take_length]
theorem thrL_cells (t : ThrV) : (thrL t).flatMap FldV.cells = [.string ⟨#[116, 104, 114, 101, 115, 104, 111, 108, 100]⟩, .int .i64 0, .int .i64 0, .string (prThr t), .int .i64 0, .int .i64 0] := rfl
end Go.Proofs.YtcaenbobfneejaaGreatDoor
namespace Go.Proofs.YtcaenbobfneejaaGreatDoor
open Go.RowKit Go.Sort
set_option linter.unusedVariables false
set_option linter.unusedSimpArgs false
set_option maxRecDepth 100000 in
set_option maxHeartbeats 16000000 in
theorem cf_Print (c : CfM) (ta : Option Addr) (tc : Nat) (w : World) (hc : CfA c ta tc w) (ht : Tab w) (hM : rightM c = true → (joinF (printC c)).length ≤ 140737488355328) :
    Calls Tryz.prog 9 #[.agg #[.int .i64 c.k0, .int .i64 c.k1, .int .i64 c.k2, .int .i64 c.a0, .int .i64 c.a1, .int .i64 c.a2, .slice ta c.T.length tc, .int .i64 c.per, .int .i64 c.ret, .int .i64 c.age, .int .i64 c.dead]] w fun e w' => e = .returned (.tuple #[.string (if rightM c = true then bA (joinF (printC c)) else ⟨#[]⟩), .int .i64 (if rightM c = true then 0 else 1)]) ∧ Below w.heap.size w w' := by
  have hw : Below w.heap.size w w := Below.refl _ _
  have hbel := hw
  have HC := Lib.hid hc
  have HT := Lib.hid ht
  have HM := Lib.hid hM
  clear hc ht hM
  obtain ⟨r, hr⟩ : ∃ x, rightM c = x := ⟨_, rfl⟩
  have HR := Lib.hid hr
  have HCR := Lib.hid (fun u (hu : Below w.heap.size w u) => cf_Right c ta tc u (HC.out.later hu))
  rw [hr] at HCR HM ⊢
  clear hr
  go_enter Tryz.func9, Tryz.ntmps9
  go_upto_region 1 with fail
  have cc0 : (w.alloc (.cells #[.int .i64 c.k0, .int .i64 c.k1, .int .i64 c.k2, .int .i64 c.a0, .int .i64 c.a1, .int .i64 c.a2, .slice ta c.T.length tc, .int .i64 c.per, .int .i64 c.ret, .int .i64 c.age, .int .i64 c.dead] 27)).cell? ⟨w.heap.size, 0, none⟩ = some (.int .i64 c.k0) := by first | (simp; done) | (rw [World.cell?_alloc_at _ _ _ _ (by simp)]; rfl) | (rw [World.cell?_alloc_past _ _ _ (by simp <;> omega), World.cell?_alloc_at _ _ _ _ (by simp)]; rfl) | (rw [World.cell?_alloc_past _ _ _ (by simp <;> omega), World.cell?_alloc_past _ _ _ (by simp <;> omega), World.cell?_alloc_at _ _ _ _ (by simp)]; rfl)
  have cc1 : (w.alloc (.cells #[.int .i64 c.k0, .int .i64 c.k1, .int .i64 c.k2, .int .i64 c.a0, .int .i64 c.a1, .int .i64 c.a2, .slice ta c.T.length tc, .int .i64 c.per, .int .i64 c.ret, .int .i64 c.age, .int .i64 c.dead] 27)).cell? ⟨w.heap.size, 1, none⟩ = some (.int .i64 c.k1) := by first | (simp; done) | (rw [World.cell?_alloc_at _ _ _ _ (by simp)]; rfl) | (rw [World.cell?_alloc_past _ _ _ (by simp <;> omega), World.cell?_alloc_at _ _ _ _ (by simp)]; rfl) | (rw [World.cell?_alloc_past _ _ _ (by simp <;> omega), World.cell?_alloc_past _ _ _ (by simp <;> omega), World.cell?_alloc_at _ _ _ _ (by simp)]; rfl)
  have cc2 : (w.alloc (.cells #[.int .i64 c.k0, .int .i64 c.k1, .int .i64 c.k2, .int .i64 c.a0, .int .i64 c.a1, .int .i64 c.a2, .slice ta c.T.length tc, .int .i64 c.per, .int .i64 c.ret, .int .i64 c.age, .int .i64 c.dead] 27)).cell? ⟨w.heap.size, 2, none⟩ = some (.int .i64 c.k2) := by first | (simp; done) | (rw [World.cell?_alloc_at _ _ _ _ (by simp)]; rfl) | (rw [World.cell?_alloc_past _ _ _ (by simp <;> omega), World.cell?_alloc_at _ _ _ _ (by simp)]; rfl) | (rw [World.cell?_alloc_past _ _ _ (by simp <;> omega), World.cell?_alloc_past _ _ _ (by simp <;> omega), World.cell?_alloc_at _ _ _ _ (by simp)]; rfl)
  have cc3 : (w.alloc (.cells #[.int .i64 c.k0, .int .i64 c.k1, .int .i64 c.k2, .int .i64 c.a0, .int .i64 c.a1, .int .i64 c.a2, .slice ta c.T.length tc, .int .i64 c.per, .int .i64 c.ret, .int .i64 c.age, .int .i64 c.dead] 27)).cell? ⟨w.heap.size, 3, none⟩ = some (.int .i64 c.a0) := by first | (simp; done) | (rw [World.cell?_alloc_at _ _ _ _ (by simp)]; rfl) | (rw [World.cell?_alloc_past _ _ _ (by simp <;> omega), World.cell?_alloc_at _ _ _ _ (by simp)]; rfl) | (rw [World.cell?_alloc_past _ _ _ (by simp <;> omega), World.cell?_alloc_past _ _ _ (by simp <;> omega), World.cell?_alloc_at _ _ _ _ (by simp)]; rfl)
  have cc4 : (w.alloc (.cells #[.int .i64 c.k0, .int .i64 c.k1, .int .i64 c.k2, .int .i64 c.a0, .int .i64 c.a1, .int .i64 c.a2, .slice ta c.T.length tc, .int .i64 c.per, .int .i64 c.ret, .int .i64 c.age, .int .i64 c.dead] 27)).cell? ⟨w.heap.size, 4, none⟩ = some (.int .i64 c.a1) := by first | (simp; done) | (rw [World.cell?_alloc_at _ _ _ _ (by simp)]; rfl) | (rw [World.cell?_alloc_past _ _ _ (by simp <;> omega), World.cell?_alloc_at _ _ _ _ (by simp)]; rfl) | (rw [World.cell?_alloc_past _ _ _ (by simp <;> omega), World.cell?_alloc_past _ _ _ (by simp <;> omega), World.cell?_alloc_at _ _ _ _ (by simp)]; rfl)
  have cc5 : (w.alloc (.cells #[.int .i64 c.k0, .int .i64 c.k1, .int .i64 c.k2, .int .i64 c.a0, .int .i64 c.a1, .int .i64 c.a2, .slice ta c.T.length tc, .int .i64 c.per, .int .i64 c.ret, .int .i64 c.age, .int .i64 c.dead] 27)).cell? ⟨w.heap.size, 5, none⟩ = some (.int .i64 c.a2) := by first | (simp; done) | (rw [World.cell?_alloc_at _ _ _ _ (by simp)]; rfl) | (rw [World.cell?_alloc_past _ _ _ (by simp <;> omega), World.cell?_alloc_at _ _ _ _ (by simp)]; rfl) | (rw [World.cell?_alloc_past _ _ _ (by simp <;> omega), World.cell?_alloc_past _ _ _ (by simp <;> omega), World.cell?_alloc_at _ _ _ _ (by simp)]; rfl)
  have cc6 : (w.alloc (.cells #[.int .i64 c.k0, .int .i64 c.k1, .int .i64 c.k2, .int .i64 c.a0, .int .i64 c.a1, .int .i64 c.a2, .slice ta c.T.length tc, .int .i64 c.per, .int .i64 c.ret, .int .i64 c.age, .int .i64 c.dead] 27)).cell? ⟨w.heap.size, 6, none⟩ = some (.slice ta c.T.length tc) := by first | (simp; done) | (rw [World.cell?_alloc_at _ _ _ _ (by simp)]; rfl) | (rw [World.cell?_alloc_past _ _ _ (by simp <;> omega), World.cell?_alloc_at _ _ _ _ (by simp)]; rfl) | (rw [World.cell?_alloc_past _ _ _ (by simp <;> omega), World.cell?_alloc_past _ _ _ (by simp <;> omega), World.cell?_alloc_at _ _ _ _ (by simp)]; rfl)
  have cc7 : (w.alloc (.cells #[.int .i64 c.k0, .int .i64 c.k1, .int .i64 c.k2, .int .i64 c.a0, .int .i64 c.a1, .int .i64 c.a2, .slice ta c.T.length tc, .int .i64 c.per, .int .i64 c.ret, .int .i64 c.age, .int .i64 c.dead] 27)).cell? ⟨w.heap.size, 7, none⟩ = some (.int .i64 c.per) := by first | (simp; done) | (rw [World.cell?_alloc_at _ _ _ _ (by simp)]; rfl) | (rw [World.cell?_alloc_past _ _ _ (by simp <;> omega), World.cell?_alloc_at _ _ _ _ (by simp)]; rfl) | (rw [World.cell?_alloc_past _ _ _ (by simp <;> omega), World.cell?_alloc_past _ _ _ (by simp <;> omega), World.cell?_alloc_at _ _ _ _ (by simp)]; rfl)
  have cc8 : (w.alloc (.cells #[.int .i64 c.k0, .int .i64 c.k1, .int .i64 c.k2, .int .i64 c.a0, .int .i64 c.a1, .int .i64 c.a2, .slice ta c.T.length tc, .int .i64 c.per, .int .i64 c.ret, .int .i64 c.age, .int .i64 c.dead] 27)).cell? ⟨w.heap.size, 8, none⟩ = some (.int .i64 c.ret) := by first | (simp; done) | (rw [World.cell?_alloc_at _ _ _ _ (by simp)]; rfl) | (rw [World.cell?_alloc_past _ _ _ (by simp <;> omega), World.cell?_alloc_at _ _ _ _ (by simp)]; rfl) | (rw [World.cell?_alloc_past _ _ _ (by simp <;> omega), World.cell?_alloc_past _ _ _ (by simp <;> omega), World.cell?_alloc_at _ _ _ _ (by simp)]; rfl)
  have cc9 : (w.alloc (.cells #[.int .i64 c.k0, .int .i64 c.k1, .int .i64 c.k2, .int .i64 c.a0, .int .i64 c.a1, .int .i64 c.a2, .slice ta c.T.length tc, .int .i64 c.per, .int .i64 c.ret, .int .i64 c.age, .int .i64 c.dead] 27)).cell? ⟨w.heap.size, 9, none⟩ = some (.int .i64 c.age) := by first | (simp; done) | (rw [World.cell?_alloc_at _ _ _ _ (by simp)]; rfl) | (rw [World.cell?_alloc_past _ _ _ (by simp <;> omega), World.cell?_alloc_at _ _ _ _ (by simp)]; rfl) | (rw [World.cell?_alloc_past _ _ _ (by simp <;> omega), World.cell?_alloc_past _ _ _ (by simp <;> omega), World.cell?_alloc_at _ _ _ _ (by simp)]; rfl)
  have cc10 : (w.alloc (.cells #[.int .i64 c.k0, .int .i64 c.k1, .int .i64 c.k2, .int .i64 c.a0, .int .i64 c.a1, .int .i64 c.a2, .slice ta c.T.length tc, .int .i64 c.per, .int .i64 c.ret, .int .i64 c.age, .int .i64 c.dead] 27)).cell? ⟨w.heap.size, 10, none⟩ = some (.int .i64 c.dead) := by first | (simp; done) | (rw [World.cell?_alloc_at _ _ _ _ (by simp)]; rfl) | (rw [World.cell?_alloc_past _ _ _ (by simp <;> omega), World.cell?_alloc_at _ _ _ _ (by simp)]; rfl) | (rw [World.cell?_alloc_past _ _ _ (by simp <;> omega), World.cell?_alloc_past _ _ _ (by simp <;> omega), World.cell?_alloc_at _ _ _ _ (by simp)]; rfl)
  have hb2 := (by repeat (first | exact hbel | refine belAlloc ?_ _ | refine belDrew ?_ | refine belSet ?_ _ _ (by simp)) : Below w.heap.size w (w.alloc (.cells #[.int .i64 c.k0, .int .i64 c.k1, .int .i64 c.k2, .int .i64 c.a0, .int .i64 c.a1, .int .i64 c.a2, .slice ta c.T.length tc, .int .i64 c.per, .int .i64 c.ret, .int .i64 c.age, .int .i64 c.dead] 27)))
  replace hw := belStep hw hb2
  have ccB : Blk (w.alloc (.cells #[.int .i64 c.k0, .int .i64 c.k1, .int .i64 c.k2, .int .i64 c.a0, .int .i64 c.a1, .int .i64 c.a2, .slice ta c.T.length tc, .int .i64 c.per, .int .i64 c.ret, .int .i64 c.age, .int .i64 c.dead] 27)) (w.heap.size) [.int .i64 c.k0, .int .i64 c.k1, .int .i64 c.k2, .int .i64 c.a0, .int .i64 c.a1, .int .i64 c.a2, .slice ta c.T.length tc, .int .i64 c.per, .int .i64 c.ret, .int .i64 c.age, .int .i64 c.dead] 27 := (Blk.at (by simp) : Blk (w.alloc (.cells #[.int .i64 c.k0, .int .i64 c.k1, .int .i64 c.k2, .int .i64 c.a0, .int .i64 c.a1, .int .i64 c.a2, .slice ta c.T.length tc, .int .i64 c.per, .int .i64 c.ret, .int .i64 c.age, .int .i64 c.dead] 27)) (w.heap.size) [.int .i64 c.k0, .int .i64 c.k1, .int .i64 c.k2, .int .i64 c.a0, .int .i64 c.a1, .int .i64 c.a2, .slice ta c.T.length tc, .int .i64 c.per, .int .i64 c.ret, .int .i64 c.age, .int .i64 c.dead] 27).later (by repeat (first | exact Below.refl _ _ | refine belAlloc ?_ _))
  have ccF := Blk.keepF ccB
  replace ccB := Blk.keepB ccB
  clear hb2 hbel
  generalize w.alloc (.cells #[.int .i64 c.k0, .int .i64 c.k1, .int .i64 c.k2, .int .i64 c.a0, .int .i64 c.a1, .int .i64 c.a2, .slice ta c.T.length tc, .int .i64 c.per, .int .i64 c.ret, .int .i64 c.age, .int .i64 c.dead] 27) = W1 at *
  replace cc0 := keep cc0
  replace cc1 := keep cc1
  replace cc2 := keep cc2
  replace cc3 := keep cc3
  replace cc4 := keep cc4
  replace cc5 := keep cc5
  replace cc6 := keep cc6
  replace cc7 := keep cc7
  replace cc8 := keep cc8
  replace cc9 := keep cc9
  replace cc10 := keep cc10
  have hbel : Below W1.heap.size W1 W1 := Below.refl _ _
  skip
  have HW := Lib.hid hw
  have HC1 := Lib.hid (HC.out.later hw)
  have HT1 := Lib.hid (HT.out.later hw)
  clear hw HC HT
  have C1 := Lib.hid (HCR.out _ HW.out)
  clear HCR
  cases r with
  | false =>
    go_wp2_with (go_at_call 10; (with_reducible refine (C1.out).mono ?_); rintro e w2 ⟨rfl, hb2⟩; have HB2 := Lib.hid hb2; clear hb2 hbel)
    go_ret2
    exact ⟨rfl, belStep HW.out HB2.out⟩
  | true =>
    go_upto_region 3 with (go_at_call 10; (with_reducible refine (C1.out).mono ?_); rintro e w2 ⟨rfl, hb2⟩; have HB2 := Lib.hid hb2; clear hb2 hbel)
    have hok := HC1.out.ok
    have hk3 := hok.ck
    have ha3 := hok.ca
    have CA := Lib.hid (fun u (hu : Below w2.heap.size w2 u) => (show Calls Tryz.prog 23 #[.string ⟨#[99, 97, 112, 97, 99, 105, 116, 121]⟩, .slice (some ⟨w.heap.size, 0, none⟩) 3 3] u fun e w' => ∃ v, e = .returned v ∧ OwnR w' u.heap.size 45 3 v 4 ((rowL 0 [c.k0, c.k1, c.k2]).flatMap FldV.cells) ∧ Below u.heap.size u w' from cf_row 0 [c.k0, c.k1, c.k2] (some ⟨w.heap.size, 0, none⟩) 3 u (row_in (ccB u (belStep HB2.out hu)) 0 3 _ rfl rfl (by decide)) (by intro n hn; simp at hn; rcases hn with rfl | rfl | rfl; exact hk3.1; exact hk3.2.1; exact hk3.2.2) (HT1.out.later (belStep HB2.out hu)) (by show 3 ≤ 3; omega)))
    have CB := Lib.hid (fun u (hu : Below w2.heap.size w2 u) => (show Calls Tryz.prog 23 #[.string ⟨#[97, 108, 108, 111, 99, 97, 116, 97, 98, 108, 101]⟩, .slice (some ⟨w.heap.size, 3, none⟩) 3 3] u fun e w' => ∃ v, e = .returned v ∧ OwnR w' u.heap.size 45 3 v 4 ((rowL 1 [c.a0, c.a1, c.a2]).flatMap FldV.cells) ∧ Below u.heap.size u w' from cf_row 1 [c.a0, c.a1, c.a2] (some ⟨w.heap.size, 3, none⟩) 3 u (row_in (ccB u (belStep HB2.out hu)) 3 3 _ rfl rfl (by decide)) (by intro n hn; simp at hn; rcases hn with rfl | rfl | rfl; exact ha3.1; exact ha3.2.1; exact ha3.2.2) (HT1.out.later (belStep HB2.out hu)) (by show 3 ≤ 3; omega)))
    refine wp_region_held_drew (S := fun u => Below w2.heap.size w2 u) (by kernel_rfl) (by exact (show Below w2.heap.size w2 _ by repeat (first | assumption | exact Below.refl _ _ | refine belDrew ?_ | refine belAlloc ?_ _ | refine belStep ?_ (by assumption)))) (fun hHeld => ?_)
    refine wpAnyH_take (i := 0) (oi := ?oi_k1) (v := ?v_k1) ?hi_k1 (by kernel_rfl) ?hf_k1 ?hr_k1 ?hQ_k1 (Or.inl ⟨?hw_k1, ?hy_k1⟩) (by assumption) ?rest_k1
    case hi_k1 => ((simp only [List.getElem?_toArray, List.getElem?_cons_succ, List.getElem?_cons_zero]); rfl)
    case hf_k1 => kernel_rfl
    case hr_k1 => kernel_rfl
    case hQ_k1 => exact fun _ _ _ h => h
    case hw_k1 => rfl
    case hy_k1 => ((intro w hSw; (try dsimp only at hSw); go_simp); all_goals (with_reducible rfl))
    try simp only [Act.put, List.setIfInBounds_toArray, List.set_cons_zero, List.set_cons_succ]
    refine wpAnyH_take (i := 1) (oi := ?oi_k2) (v := ?v_k2) ?hi_k2 (by kernel_rfl) ?hf_k2 ?hr_k2 ?hQ_k2 (Or.inl ⟨?hw_k2, ?hy_k2⟩) (by assumption) ?rest_k2
    case hi_k2 => ((simp only [List.getElem?_toArray, List.getElem?_cons_succ, List.getElem?_cons_zero]); rfl)
    case hf_k2 => kernel_rfl
    case hr_k2 => kernel_rfl
    case hQ_k2 => exact fun _ _ _ h => h
    case hw_k2 => rfl
    case hy_k2 => ((intro w hSw; (try dsimp only at hSw); go_simp); all_goals (with_reducible rfl))
    try simp only [Act.put, List.setIfInBounds_toArray, List.set_cons_zero, List.set_cons_succ]
    refine wpAnyH_take (i := 3) (oi := ?oi_k3) (v := ?v_k3) ?hi_k3 (by kernel_rfl) ?hf_k3 ?hr_k3 ?hQ_k3 (Or.inl ⟨?hw_k3, ?hy_k3⟩) (by assumption) ?rest_k3
    case hi_k3 => ((simp only [List.getElem?_toArray, List.getElem?_cons_succ, List.getElem?_cons_zero]); rfl)
    case hf_k3 => kernel_rfl
    case hr_k3 => kernel_rfl
    case hQ_k3 => exact fun _ _ _ h => h
    case hw_k3 => rfl
    case hy_k3 => ((intro w hSw; (try dsimp only at hSw); go_simp); all_goals (with_reducible rfl))
    try simp only [Act.put, List.setIfInBounds_toArray, List.set_cons_zero, List.set_cons_succ]
    refine wpAnyH_take (i := 4) (oi := ?oi_k4) (v := ?v_k4) ?hi_k4 (by kernel_rfl) ?hf_k4 ?hr_k4 ?hQ_k4 (Or.inl ⟨?hw_k4, ?hy_k4⟩) (by assumption) ?rest_k4
    case hi_k4 => ((simp only [List.getElem?_toArray, List.getElem?_cons_succ, List.getElem?_cons_zero]); rfl)
    case hf_k4 => kernel_rfl
    case hr_k4 => kernel_rfl
    case hQ_k4 => exact fun _ _ _ h => h
    case hw_k4 => rfl
    case hy_k4 => ((intro w hSw; (try dsimp only at hSw); go_simp); all_goals (with_reducible rfl))
    try simp only [Act.put, List.setIfInBounds_toArray, List.set_cons_zero, List.set_cons_succ]
    refine wpAnyH_ready (rs := [2]) (by kernel_rfl) (by simp) ?_
    refine AllReadyH.cons (o := ?o1_k5) ?hi_k5 (fun K hK => ?rest_k5) AllReadyH.nil
    case hi_k5 => ((simp only [List.getElem?_toArray, List.getElem?_cons_succ, List.getElem?_cons_zero]); rfl)
    go_simp
    (go_at_call 23; (with_reducible refine (CA.out _ hHeld).mono ?_); rintro e wa ⟨va, rfl, hoa, hba⟩)
    try go_simp
    refine hK.out _ _ (by exact (show Below w2.heap.size w2 _ by repeat (first | assumption | exact Below.refl _ _ | refine belDrew ?_ | refine belAlloc ?_ _ | refine belStep ?_ (by assumption)))) (fun hHeld => ?_)
    clear hK K
    try simp only [Act.put, List.setIfInBounds_toArray, List.set_cons_zero, List.set_cons_succ]
    obtain ⟨a4, c4, e4, _⟩ := rowR_of_own hoa
    subst e4
    refine wpAnyH_ready (rs := [5]) (by kernel_rfl) (by simp) ?_
    refine AllReadyH.cons (o := ?o1_k6) ?hi_k6 (fun K hK => ?rest_k6) AllReadyH.nil
    case hi_k6 => ((simp only [List.getElem?_toArray, List.getElem?_cons_succ, List.getElem?_cons_zero]); rfl)
    go_simp
    (go_at_call 23; (with_reducible refine (CB.out _ hHeld).mono ?_); rintro e wb ⟨vb, rfl, hob, hbb⟩)
    try go_simp
    refine hK.out _ _ (by exact (show Below w2.heap.size w2 _ by repeat (first | assumption | exact Below.refl _ _ | refine belDrew ?_ | refine belAlloc ?_ _ | refine belStep ?_ (by assumption)))) (fun hHeld => ?_)
    clear hK K
    try simp only [Act.put, List.setIfInBounds_toArray, List.set_cons_zero, List.set_cons_succ]
    obtain ⟨a5, c5, e5, _⟩ := rowR_of_own hob
    subst e5
    have hS5 := own_sep hoa hob (Nat.le_refl _)
    replace hoa := OwnR.later hoa hbb
    have hBb := hHeld
    refine wpAnyH_ready (rs := [6]) (by kernel_rfl) (by simp) ?_
    refine AllReadyH.cons (o := ?o1_k7) ?hi_k7 (fun K hK => ?rest_k7) AllReadyH.nil
    case hi_k7 => ((simp only [List.getElem?_toArray, List.getElem?_cons_succ, List.getElem?_cons_zero]); rfl)
    go_simp
    refine hK.out _ _ (by exact (show Below w2.heap.size w2 _ by repeat (first | assumption | exact Below.refl _ _ | refine belDrew ?_ | refine belAlloc ?_ _ | refine belStep ?_ (by assumption)))) (fun hHeld => ?_)
    clear hK K
    try simp only [Act.put, List.setIfInBounds_toArray, List.set_cons_zero, List.set_cons_succ]
    have HR0 := Lib.hid (show RowsF (wb.alloc (.cells #[.slice a4 4 c4, .slice a5 4 c5] 43)) w2.heap.size (.slice (some ⟨wb.heap.size, 0, none⟩) 2 2) (upTo c 0) [.slice a4 4 c4, .slice a5 4 c5] from rows_two (F := rowL 0 [c.k0, c.k1, c.k2]) (G := rowL 1 [c.a0, c.a1, c.a2]) (own_blkR (k := 1) (Blk.new wb [.slice a4 4 c4, .slice a5 4 c5] 43) hBb.size rfl (by decide)) ((OwnR.mono hoa (Nat.le_refl _)).alloc _) ((OwnR.mono hob (Below.size (by assumption))).alloc _) hS5)
    have HB3 := Lib.hid hHeld
    generalize wb.alloc (.cells #[.slice a4 4 c4, .slice a5 4 c5] 43) = W3 at *
    generalize wb.heap.size = g3 at *
    refine wpAnyH_ready (rs := [7]) (by kernel_rfl) (by simp) ?_
    refine AllReadyH.cons (o := ?o1_k8) ?hi_k8 (fun K hK => ?rest_k8) AllReadyH.nil
    case hi_k8 => ((simp only [List.getElem?_toArray, List.getElem?_cons_succ, List.getElem?_cons_zero]); rfl)
    go_simp
    refine hK.out _ _ (by exact (show Below w2.heap.size w2 _ by repeat (first | assumption | exact Below.refl _ _ | refine belDrew ?_ | refine belAlloc ?_ _ | refine belStep ?_ (by assumption)))) (fun hHeld => ?_)
    clear hK K
    try simp only [Act.put, List.setIfInBounds_toArray, List.set_cons_zero, List.set_cons_succ]
    refine wpAnyH_done (by kernel_rfl) ?_ _
    clear hS5 hoa hob hBb CA CB
    obtain ⟨hTl, hTr⟩ := right_of c HR.out
    have hbd_a : c.T.length ≤ tc ∧ tc ≤ 9223372036854775807 := by obtain ⟨_, h1, h2, _⟩ := HC1.out.row; unfold maxLen at h2; exact ⟨h1, h2⟩
    obtain ⟨hbd1_a, hbd2_a⟩ := hbd_a
    have HTR := Lib.hid (fun t (ht : t ∈ c.T) => And.intro (hTr t ht) (hok.thr t ht).2.2.1)
    clear hTr hok
    have c6 := cc6 _ (belStep HB2.out HB3.out)
    have HRT := Lib.hid (HC1.out.row.later HB2.out)
    have HT2 := Lib.hid (HT1.out.later HB2.out)
    have HOP := Lib.hid HC1.out.ok
    go_wp2
    go_loopw [4, 20] (fun s i wr => ∃ (k : Nat) (vs : List Value), k ≤ c.T.length ∧ i = .int .i64 k ∧ Hid (RowsF wr w2.heap.size s (upTo c k) vs) ∧ Hid (Below w2.heap.size w2 wr)) (fun _ i _ => c.T.length - (intOf i).toNat)
    case atStart => exact ⟨0, _, Nat.zero_le _, rfl, HR0, HB3⟩
    case round =>
      clear HR0 HB3 c6
      obtain ⟨k, vs, hk, rfl, HRW, HBW⟩ := hrel
      have hln := upTo_len c k hk
      obtain ⟨sa, sc, es⟩ : ∃ a c1, u4 = .slice a (k + 2) c1 := by obtain ⟨a, c1, e⟩ := HRW.out.shape; exact ⟨a, c1, by rw [e, hln]⟩
      subst es
      have hown := HRW.out.out
      rw [hln] at hown
      have HO := Lib.hid hown
      have HLN := Lib.hid hln
      clear hown hln
      by_cases hlt : k < c.T.length
      · have hd : decide ((k : Int) < (c.T.length : Int)) = true := decide_eq_true (by omega)
        have hki : (k : Int) < (c.T.length : Int) := by omega
        have hk0 : (0 : Int) ≤ (k : Int) := by omega
        obtain ⟨x, hx⟩ : ∃ x, c.T[k]? = some x := ⟨c.T[k], List.getElem?_eq_getElem hlt⟩
        obtain ⟨bc, oc, ec, _, hcc⟩ := (HRT.out).elem ThrV.cells_len (by omega) hx
        subst ec
        have c0 := keep (hcc 0 _ rfl)
        have c1 := keep (hcc 1 _ rfl)
        have c2 := keep (hcc 2 _ rfl)
        have c3 := keep (hcc 3 _ rfl)
        have c4 := keep (hcc 4 _ rfl)
        rw [Nat.add_zero] at c0
        have HX := Lib.hid hx
        obtain ⟨hxr, hxa⟩ := HTR.out x (List.mem_of_getElem? hx)
        have CP := Lib.hid (fun u hu => thr_Print x u hxr hxa hu)
        clear hx hcc hxr hxa
        have hbel := HBW.out
        go_upto_region 7 with fail
        go_wp2_with (first | (go_at_call 24; (with_reducible refine (CP.out _ (HT2.out.later (belAlloc hbel _))).mono ?_); rintro e w4 ⟨rfl, hb4⟩; have HB4 := Lib.hid (belStep (belAlloc hbel _) hb4); have HR4 := Lib.hid ((HRW.out.alloc _).later hb4); have HO4 := Lib.hid (OwnR.alloc (OwnR.alloc (OwnR.later (HO.out.alloc _) hb4) (.cells #[.string ⟨#[116, 104, 114, 101, 115, 104, 111, 108, 100]⟩, .int .i64 0, .int .i64 0, .string (prThr x), .int .i64 0, .int .i64 0] 45)) (.cells #[.slice (some ⟨w4.heap.size, 0, none⟩) 2 2] 43)); clear hb4; have HRX := Lib.hid (show Row ((w4.alloc (.cells #[.string ⟨#[116, 104, 114, 101, 115, 104, 111, 108, 100]⟩, .int .i64 0, .int .i64 0, .string (prThr x), .int .i64 0, .int .i64 0] 45)).alloc (.cells #[.slice (some ⟨w4.heap.size, 0, none⟩) 2 2] 43)) (some ⟨w4.heap.size + 1, 0, none⟩) 1 1 1 [.slice (some ⟨w4.heap.size, 0, none⟩) 2 2] from row_of_blkN (n := 1) (k := 1) (blk_new2 w4 _ [.slice (some ⟨w4.heap.size, 0, none⟩) 2 2] 43) rfl (by decide))) | (at_builtin; refine wpList_app_sep rfl _ _ 36 rfl w2.heap.size 43 _ 1 24 Tryz.underlying36 info_row rfl (by decide) _ (k + 2) _ rfl HO4.out _ 1 1 [.slice (some ⟨w4.heap.size, 0, none⟩) 2 2] rfl HRX.out (fun u hu => by simp at hu; subst hu; rfl) ?c1 ?c2 ?c3 ?_))
        case c1 => simp only [maxLen]; omega
        case c2 => omega
        case c3 => exact (belAlloc (belAlloc HB4.out _) _).size
        intro v5 w5 ho5 hb5 hg5 _
        have HP := Lib.hid (RowsF.one _ _ (thrL_cells x) rfl (show 2 ≤ maxLen by decide) HR4.out HB4.out.size (by rw [HLN.out]; exact ho5) hg5)
        rw [upTo_next c k HX.out] at HP
        have HB5 := Lib.hid ((belAlloc (belAlloc HB4.out (.cells #[.string ⟨#[116, 104, 114, 101, 115, 104, 111, 108, 100]⟩, .int .i64 0, .int .i64 0, .string (prThr x), .int .i64 0, .int .i64 0] 45)) (.cells #[.slice (some ⟨w4.heap.size, 0, none⟩) 2 2] 43)).trans hb5)
        clear ho5 hb5 hg5 HR4 HO4 HRX
        go_wp2
        go_roundw
        case rel => exact ⟨k + 1, _, by omega, by push_cast; rfl, HP, HB5⟩
        case measure => simp [intOf] <;> omega
      · obtain rfl : k = c.T.length := by omega
        have hd : decide ((c.T.length : Int) < (c.T.length : Int)) = false := decide_eq_false (by omega)
        go_upto_region 9 with fail
        have hp := HOP.out.cp
        have CR4 := Lib.hid (fun (g : Nat) (u : World) (hu : Below w2.heap.size w2 u) (hr : Row u (some ⟨g, 0, none⟩) 1 1 1 [.int .i64 c.per]) => (show Calls Tryz.prog 23 #[.string ⟨#[112, 101, 114, 105, 111, 100]⟩, .slice (some ⟨g, 0, none⟩) 1 1] u fun e w' => ∃ v, e = .returned v ∧ OwnR w' u.heap.size 45 3 v 2 ((rowL 2 [c.per]).flatMap FldV.cells) ∧ Below u.heap.size u w' from cf_row 2 [c.per] (some ⟨g, 0, none⟩) 1 u hr (by intro n hn; simp at hn; subst hn; exact hp.1) (HT2.out.later hu) (by show 1 ≤ 3; omega)))
        have CR8 := Lib.hid (fun (g : Nat) (u : World) (hu : Below w2.heap.size w2 u) (hr : Row u (some ⟨g, 0, none⟩) 1 1 1 [.int .i64 c.ret]) => (show Calls Tryz.prog 23 #[.string ⟨#[114, 101, 116, 114, 105, 101, 115]⟩, .slice (some ⟨g, 0, none⟩) 1 1] u fun e w' => ∃ v, e = .returned v ∧ OwnR w' u.heap.size 45 3 v 2 ((rowL 3 [c.ret]).flatMap FldV.cells) ∧ Below u.heap.size u w' from cf_row 3 [c.ret] (some ⟨g, 0, none⟩) 1 u hr (by intro n hn; simp at hn; subst hn; exact hp.2.1) (HT2.out.later hu) (by show 1 ≤ 3; omega)))
        have CR12 := Lib.hid (fun (g : Nat) (u : World) (hu : Below w2.heap.size w2 u) (hr : Row u (some ⟨g, 0, none⟩) 1 1 1 [.int .i64 c.age]) => (show Calls Tryz.prog 23 #[.string ⟨#[109, 97, 120, 97, 103, 101]⟩, .slice (some ⟨g, 0, none⟩) 1 1] u fun e w' => ∃ v, e = .returned v ∧ OwnR w' u.heap.size 45 3 v 2 ((rowL 4 [c.age]).flatMap FldV.cells) ∧ Below u.heap.size u w' from cf_row 4 [c.age] (some ⟨g, 0, none⟩) 1 u hr (by intro n hn; simp at hn; subst hn; exact hp.2.2.1) (HT2.out.later hu) (by show 1 ≤ 3; omega)))
        have CR16 := Lib.hid (fun (g : Nat) (u : World) (hu : Below w2.heap.size w2 u) (hr : Row u (some ⟨g, 0, none⟩) 1 1 1 [.int .i64 c.dead]) => (show Calls Tryz.prog 23 #[.string ⟨#[100, 101, 97, 100]⟩, .slice (some ⟨g, 0, none⟩) 1 1] u fun e w' => ∃ v, e = .returned v ∧ OwnR w' u.heap.size 45 3 v 2 ((rowL 5 [c.dead]).flatMap FldV.cells) ∧ Below u.heap.size u w' from cf_row 5 [c.dead] (some ⟨g, 0, none⟩) 1 u hr (by intro n hn; simp at hn; subst hn; exact hp.2.2.2) (HT2.out.later hu) (by show 1 ≤ 3; omega)))
        have hSP0 : SPz w2 wr (.slice sa (c.T.length + 2) sc) (upTo c c.T.length) vs wr := ⟨HBW.out, Nat.le_refl _, HRW.out⟩
        refine wp_region_held_drew (S := fun u => SPz w2 wr (.slice sa (c.T.length + 2) sc) (upTo c c.T.length) vs u) (by kernel_rfl) (by exact hSP0.step (belDrew (Below.refl _ _))) (fun hHeld => ?_)
        refine wpAnyH_take (i := 0) (oi := ?oi_k11) (v := ?v_k11) ?hi_k11 (by kernel_rfl) ?hf_k11 ?hr_k11 ?hQ_k11 (Or.inl ⟨?hw_k11, ?hy_k11⟩) (by assumption) ?rest_k11
        case hi_k11 => ((simp only [List.getElem?_toArray, List.getElem?_cons_succ, List.getElem?_cons_zero]); rfl)
        case hf_k11 => kernel_rfl
        case hr_k11 => kernel_rfl
        case hQ_k11 => exact fun _ _ _ h => h
        case hw_k11 => rfl
        case hy_k11 => ((intro w hSw; (try dsimp only at hSw); go_simp); all_goals (with_reducible rfl))
        try simp only [Act.put, List.setIfInBounds_toArray, List.set_cons_zero, List.set_cons_succ]
        refine wpAnyH_take (i := 1) (oi := ?oi_k12) (v := ?v_k12) ?hi_k12 (by kernel_rfl) ?hf_k12 ?hr_k12 ?hQ_k12 (Or.inl ⟨?hw_k12, ?hy_k12⟩) (by assumption) ?rest_k12
        case hi_k12 => ((simp only [List.getElem?_toArray, List.getElem?_cons_succ, List.getElem?_cons_zero]); rfl)
        case hf_k12 => kernel_rfl
        case hr_k12 => kernel_rfl
        case hQ_k12 => exact fun _ _ _ h => h
        case hw_k12 => rfl
        case hy_k12 => ((intro w hSw; (try dsimp only at hSw); go_simp); all_goals (with_reducible rfl))
        try simp only [Act.put, List.setIfInBounds_toArray, List.set_cons_zero, List.set_cons_succ]
        refine wpAnyH_take (i := 2) (oi := ?oi_k13) (v := ?v_k13) ?hi_k13 (by kernel_rfl) ?hf_k13 ?hr_k13 ?hQ_k13 (Or.inl ⟨?hw_k13, ?hy_k13⟩) (by assumption) ?rest_k13
        case hi_k13 => ((simp only [List.getElem?_toArray, List.getElem?_cons_succ, List.getElem?_cons_zero]); rfl)
        case hf_k13 => kernel_rfl
        case hr_k13 => kernel_rfl
        case hQ_k13 => exact fun _ _ _ h => h
        case hw_k13 => rfl
        case hy_k13 => ((intro w hSw; (try dsimp only at hSw); have y7 := cc7 w (belStep HB2.out hSw.bel); go_simp); all_goals (with_reducible rfl))
        try simp only [Act.put, List.setIfInBounds_toArray, List.set_cons_zero, List.set_cons_succ]
        refine wpAnyH_take (i := 5) (oi := ?oi_k14) (v := ?v_k14) ?hi_k14 (by kernel_rfl) ?hf_k14 ?hr_k14 ?hQ_k14 (Or.inl ⟨?hw_k14, ?hy_k14⟩) (by assumption) ?rest_k14
        case hi_k14 => ((simp only [List.getElem?_toArray, List.getElem?_cons_succ, List.getElem?_cons_zero]); rfl)
        case hf_k14 => kernel_rfl
        case hr_k14 => kernel_rfl
        case hQ_k14 => exact fun _ _ _ h => h
        case hw_k14 => rfl
        case hy_k14 => ((intro w hSw; (try dsimp only at hSw); go_simp); all_goals (with_reducible rfl))
        try simp only [Act.put, List.setIfInBounds_toArray, List.set_cons_zero, List.set_cons_succ]
        refine wpAnyH_take (i := 6) (oi := ?oi_k15) (v := ?v_k15) ?hi_k15 (by kernel_rfl) ?hf_k15 ?hr_k15 ?hQ_k15 (Or.inl ⟨?hw_k15, ?hy_k15⟩) (by assumption) ?rest_k15
        case hi_k15 => ((simp only [List.getElem?_toArray, List.getElem?_cons_succ, List.getElem?_cons_zero]); rfl)
        case hf_k15 => kernel_rfl
        case hr_k15 => kernel_rfl
        case hQ_k15 => exact fun _ _ _ h => h
        case hw_k15 => rfl
        case hy_k15 => ((intro w hSw; (try dsimp only at hSw); have y8 := cc8 w (belStep HB2.out hSw.bel); go_simp); all_goals (with_reducible rfl))
        try simp only [Act.put, List.setIfInBounds_toArray, List.set_cons_zero, List.set_cons_succ]
        refine wpAnyH_take (i := 9) (oi := ?oi_k16) (v := ?v_k16) ?hi_k16 (by kernel_rfl) ?hf_k16 ?hr_k16 ?hQ_k16 (Or.inl ⟨?hw_k16, ?hy_k16⟩) (by assumption) ?rest_k16
        case hi_k16 => ((simp only [List.getElem?_toArray, List.getElem?_cons_succ, List.getElem?_cons_zero]); rfl)
        case hf_k16 => kernel_rfl
        case hr_k16 => kernel_rfl
        case hQ_k16 => exact fun _ _ _ h => h
        case hw_k16 => rfl
        case hy_k16 => ((intro w hSw; (try dsimp only at hSw); go_simp); all_goals (with_reducible rfl))
        try simp only [Act.put, List.setIfInBounds_toArray, List.set_cons_zero, List.set_cons_succ]
        refine wpAnyH_take (i := 10) (oi := ?oi_k17) (v := ?v_k17) ?hi_k17 (by kernel_rfl) ?hf_k17 ?hr_k17 ?hQ_k17 (Or.inl ⟨?hw_k17, ?hy_k17⟩) (by assumption) ?rest_k17
        case hi_k17 => ((simp only [List.getElem?_toArray, List.getElem?_cons_succ, List.getElem?_cons_zero]); rfl)
        case hf_k17 => kernel_rfl
        case hr_k17 => kernel_rfl
        case hQ_k17 => exact fun _ _ _ h => h
        case hw_k17 => rfl
        case hy_k17 => ((intro w hSw; (try dsimp only at hSw); have y9 := cc9 w (belStep HB2.out hSw.bel); go_simp); all_goals (with_reducible rfl))
        try simp only [Act.put, List.setIfInBounds_toArray, List.set_cons_zero, List.set_cons_succ]
        refine wpAnyH_take (i := 13) (oi := ?oi_k18) (v := ?v_k18) ?hi_k18 (by kernel_rfl) ?hf_k18 ?hr_k18 ?hQ_k18 (Or.inl ⟨?hw_k18, ?hy_k18⟩) (by assumption) ?rest_k18
        case hi_k18 => ((simp only [List.getElem?_toArray, List.getElem?_cons_succ, List.getElem?_cons_zero]); rfl)
        case hf_k18 => kernel_rfl
        case hr_k18 => kernel_rfl
        case hQ_k18 => exact fun _ _ _ h => h
        case hw_k18 => rfl
        case hy_k18 => ((intro w hSw; (try dsimp only at hSw); go_simp); all_goals (with_reducible rfl))
        try simp only [Act.put, List.setIfInBounds_toArray, List.set_cons_zero, List.set_cons_succ]
        refine wpAnyH_take (i := 14) (oi := ?oi_k19) (v := ?v_k19) ?hi_k19 (by kernel_rfl) ?hf_k19 ?hr_k19 ?hQ_k19 (Or.inl ⟨?hw_k19, ?hy_k19⟩) (by assumption) ?rest_k19
        case hi_k19 => ((simp only [List.getElem?_toArray, List.getElem?_cons_succ, List.getElem?_cons_zero]); rfl)
        case hf_k19 => kernel_rfl
        case hr_k19 => kernel_rfl
        case hQ_k19 => exact fun _ _ _ h => h
        case hw_k19 => rfl
        case hy_k19 => ((intro w hSw; (try dsimp only at hSw); have y10 := cc10 w (belStep HB2.out hSw.bel); go_simp); all_goals (with_reducible rfl))
        try simp only [Act.put, List.setIfInBounds_toArray, List.set_cons_zero, List.set_cons_succ]
        refine krip (fun u u' => Below u.heap.size u u') [36, 37, 40, 41, 44, 45, 48, 49] [[], [], [], [], [3], [], [], [], [3, 4, 7], [], [], [], [3, 4, 7, 8, 11], [], [], [], [3, 4, 7, 8, 11, 12, 15], [3, 4, 7, 8, 11, 12, 15, 16], [3, 4, 7, 8, 11, 12, 15, 16], [3, 4, 7, 8, 11, 12, 15, 16]] [[], [], [], [36], [37], [], [], [40], [37, 41], [], [], [44], [37, 41, 45], [], [], [48], [37, 41, 45, 49], [], [], []] [3, 4, 7, 8, 11, 12, 15, 16] (krF [(3, fun t u => ∃ g : Nat, t 36 = .slice (some ⟨g, 0, none⟩) 1 1 ∧ Row u (some ⟨g, 0, none⟩) 1 1 1 [.int .i64 c.per]), (4, fun t u => OwnR u wr.heap.size 45 3 (t 37) 2 ((rowL 2 [c.per]).flatMap FldV.cells)), (7, fun t u => ∃ g : Nat, t 40 = .slice (some ⟨g, 0, none⟩) 1 1 ∧ Row u (some ⟨g, 0, none⟩) 1 1 1 [.int .i64 c.ret]), (8, fun t u => OwnR u wr.heap.size 45 3 (t 41) 2 ((rowL 3 [c.ret]).flatMap FldV.cells) ∧ Sep (t 37) (t 41)), (11, fun t u => ∃ g : Nat, t 44 = .slice (some ⟨g, 0, none⟩) 1 1 ∧ Row u (some ⟨g, 0, none⟩) 1 1 1 [.int .i64 c.age]), (12, fun t u => OwnR u wr.heap.size 45 3 (t 45) 2 ((rowL 4 [c.age]).flatMap FldV.cells) ∧ Sep (t 37) (t 45) ∧ Sep (t 41) (t 45)), (15, fun t u => ∃ g : Nat, t 48 = .slice (some ⟨g, 0, none⟩) 1 1 ∧ Row u (some ⟨g, 0, none⟩) 1 1 1 [.int .i64 c.dead]), (16, fun t u => OwnR u wr.heap.size 45 3 (t 49) 2 ((rowL 5 [c.dead]).flatMap FldV.cells) ∧ Sep (t 37) (t 49) ∧ Sep (t 41) (t 49) ∧ Sep (t 45) (t 49))]) 3 #[true, true, true, true, true, true, true, true, true, true, true, true, true, true, true, true, true, false, false, false] (by kernel_rfl) (by kernel_rfl) (by kernel_rfl) (by assumption) (AllL.cons ?s_3_q20 (AllL.cons ?s_4_q20 (AllL.cons ?s_7_q20 (AllL.cons ?s_8_q20 (AllL.cons ?s_11_q20 (AllL.cons ?s_12_q20 (AllL.cons ?s_15_q20 (AllL.cons ?s_16_q20 AllL.nil)))))))) (AllL.cons ?o_3_q20 (AllL.cons ?o_4_q20 (AllL.cons ?o_7_q20 (AllL.cons ?o_8_q20 (AllL.cons ?o_11_q20 (AllL.cons ?o_12_q20 (AllL.cons ?o_15_q20 (AllL.cons ?o_16_q20 AllL.nil)))))))) ?e_q20
        case s_3_q20 => exact fun t u u' hle ⟨g, e, h⟩ => ⟨g, e, Row.later h hle⟩
        case s_4_q20 => exact fun t u u' hle h => OwnR.later h hle
        case s_7_q20 => exact fun t u u' hle ⟨g, e, h⟩ => ⟨g, e, Row.later h hle⟩
        case s_8_q20 => exact fun t u u' hle h => ⟨OwnR.later h.1 hle, h.2⟩
        case s_11_q20 => exact fun t u u' hle ⟨g, e, h⟩ => ⟨g, e, Row.later h hle⟩
        case s_12_q20 => exact fun t u u' hle h => ⟨OwnR.later h.1 hle, h.2⟩
        case s_15_q20 => exact fun t u u' hle ⟨g, e, h⟩ => ⟨g, e, Row.later h hle⟩
        case s_16_q20 => exact fun t u u' hle h => ⟨OwnR.later h.1 hle, h.2⟩
        case o_3_q20 =>
          refine KrOp.of (o := ?oo_3_q20) ?hi_3_q20 (fun t u hHeld hF K hK => ?rr_3_q20)
          case hi_3_q20 => ((simp only [List.getElem?_toArray, List.getElem?_cons_succ, List.getElem?_cons_zero]); rfl)
          case rr_3_q20 =>
            clear hF
            simp only [setl, List.foldl_cons, List.foldl_nil, Act.put, List.setIfInBounds_toArray, List.set_cons_zero, List.set_cons_succ] at hK ⊢
            go_simp
            refine hK.out _ _ (by exact (by repeat (first | assumption | exact Below.refl _ _ | refine belDrew ?_ | refine belAlloc ?_ _ | refine belStep ?_ (by assumption)))) (by first | exact hHeld | exact SPz.step hHeld (by repeat (first | assumption | exact Below.refl _ _ | refine belDrew ?_ | refine belAlloc ?_ _ | refine belStep ?_ (by assumption)))) ?_
            exact ⟨_, rfl, row_of_blkN (n := 1) (k := 1) (Blk.new _ [.int .i64 c.per] 3) rfl (by decide)⟩
        case o_4_q20 =>
          refine KrOp.of (o := ?oo_4_q20) ?hi_4_q20 (fun t u hHeld hF K hK => ?rr_4_q20)
          case hi_4_q20 => ((simp only [List.getElem?_toArray, List.getElem?_cons_succ, List.getElem?_cons_zero]); rfl)
          case rr_4_q20 =>
            have h3 : ∃ g : Nat, t 36 = .slice (some ⟨g, 0, none⟩) 1 1 ∧ Row u (some ⟨g, 0, none⟩) 1 1 1 [.int .i64 c.per] := hF 3 rfl rfl
            clear hF
            simp only [setl, List.foldl_cons, List.foldl_nil, Act.put, List.setIfInBounds_toArray, List.set_cons_zero, List.set_cons_succ] at hK ⊢
            obtain ⟨g3, e3, hr3⟩ := h3
            simp only [e3] at hK ⊢
            go_simp
            (go_at_call 23; (with_reducible refine (CR4.out g3 _ hHeld.bel hr3).mono ?_); rintro e wq ⟨vq, rfl, hoq, hbq⟩)
            try go_simp
            refine hK.out _ _ (by exact (by repeat (first | assumption | exact Below.refl _ _ | refine belDrew ?_ | refine belAlloc ?_ _ | refine belStep ?_ (by assumption)))) (by first | exact hHeld | exact SPz.step hHeld (by repeat (first | assumption | exact Below.refl _ _ | refine belDrew ?_ | refine belAlloc ?_ _ | refine belStep ?_ (by assumption)))) ?_
            exact OwnR.mono hoq hHeld.sz
        case o_7_q20 =>
          refine KrOp.of (o := ?oo_7_q20) ?hi_7_q20 (fun t u hHeld hF K hK => ?rr_7_q20)
          case hi_7_q20 => ((simp only [List.getElem?_toArray, List.getElem?_cons_succ, List.getElem?_cons_zero]); rfl)
          case rr_7_q20 =>
            clear hF
            simp only [setl, List.foldl_cons, List.foldl_nil, Act.put, List.setIfInBounds_toArray, List.set_cons_zero, List.set_cons_succ] at hK ⊢
            go_simp
            refine hK.out _ _ (by exact (by repeat (first | assumption | exact Below.refl _ _ | refine belDrew ?_ | refine belAlloc ?_ _ | refine belStep ?_ (by assumption)))) (by first | exact hHeld | exact SPz.step hHeld (by repeat (first | assumption | exact Below.refl _ _ | refine belDrew ?_ | refine belAlloc ?_ _ | refine belStep ?_ (by assumption)))) ?_
            exact ⟨_, rfl, row_of_blkN (n := 1) (k := 1) (Blk.new _ [.int .i64 c.ret] 3) rfl (by decide)⟩
        case o_8_q20 =>
          refine KrOp.of (o := ?oo_8_q20) ?hi_8_q20 (fun t u hHeld hF K hK => ?rr_8_q20)
          case hi_8_q20 => ((simp only [List.getElem?_toArray, List.getElem?_cons_succ, List.getElem?_cons_zero]); rfl)
          case rr_8_q20 =>
            have h7 : ∃ g : Nat, t 40 = .slice (some ⟨g, 0, none⟩) 1 1 ∧ Row u (some ⟨g, 0, none⟩) 1 1 1 [.int .i64 c.ret] := hF 7 rfl rfl
            have h4 : OwnR u wr.heap.size 45 3 (t 37) 2 ((rowL 2 [c.per]).flatMap FldV.cells) := hF 4 rfl rfl
            clear hF
            simp only [setl, List.foldl_cons, List.foldl_nil, Act.put, List.setIfInBounds_toArray, List.set_cons_zero, List.set_cons_succ] at hK ⊢
            obtain ⟨g7, e7, hr7⟩ := h7
            have ho4 := h4
            simp only [e7] at hK ⊢
            go_simp
            (go_at_call 23; (with_reducible refine (CR8.out g7 _ hHeld.bel hr7).mono ?_); rintro e wq ⟨vq, rfl, hoq, hbq⟩)
            try go_simp
            refine hK.out _ _ (by exact (by repeat (first | assumption | exact Below.refl _ _ | refine belDrew ?_ | refine belAlloc ?_ _ | refine belStep ?_ (by assumption)))) (by first | exact hHeld | exact SPz.step hHeld (by repeat (first | assumption | exact Below.refl _ _ | refine belDrew ?_ | refine belAlloc ?_ _ | refine belStep ?_ (by assumption)))) ?_
            exact ⟨OwnR.mono hoq hHeld.sz, own_sep ho4 hoq (Nat.le_refl _)⟩
        case o_11_q20 =>
          refine KrOp.of (o := ?oo_11_q20) ?hi_11_q20 (fun t u hHeld hF K hK => ?rr_11_q20)
          case hi_11_q20 => ((simp only [List.getElem?_toArray, List.getElem?_cons_succ, List.getElem?_cons_zero]); rfl)
          case rr_11_q20 =>
            clear hF
            simp only [setl, List.foldl_cons, List.foldl_nil, Act.put, List.setIfInBounds_toArray, List.set_cons_zero, List.set_cons_succ] at hK ⊢
            go_simp
            refine hK.out _ _ (by exact (by repeat (first | assumption | exact Below.refl _ _ | refine belDrew ?_ | refine belAlloc ?_ _ | refine belStep ?_ (by assumption)))) (by first | exact hHeld | exact SPz.step hHeld (by repeat (first | assumption | exact Below.refl _ _ | refine belDrew ?_ | refine belAlloc ?_ _ | refine belStep ?_ (by assumption)))) ?_
            exact ⟨_, rfl, row_of_blkN (n := 1) (k := 1) (Blk.new _ [.int .i64 c.age] 3) rfl (by decide)⟩
        case o_12_q20 =>
          refine KrOp.of (o := ?oo_12_q20) ?hi_12_q20 (fun t u hHeld hF K hK => ?rr_12_q20)
          case hi_12_q20 => ((simp only [List.getElem?_toArray, List.getElem?_cons_succ, List.getElem?_cons_zero]); rfl)
          case rr_12_q20 =>
            have h11 : ∃ g : Nat, t 44 = .slice (some ⟨g, 0, none⟩) 1 1 ∧ Row u (some ⟨g, 0, none⟩) 1 1 1 [.int .i64 c.age] := hF 11 rfl rfl
            have h4 : OwnR u wr.heap.size 45 3 (t 37) 2 ((rowL 2 [c.per]).flatMap FldV.cells) := hF 4 rfl rfl
            have h8 : OwnR u wr.heap.size 45 3 (t 41) 2 ((rowL 3 [c.ret]).flatMap FldV.cells) ∧ Sep (t 37) (t 41) := hF 8 rfl rfl
            clear hF
            simp only [setl, List.foldl_cons, List.foldl_nil, Act.put, List.setIfInBounds_toArray, List.set_cons_zero, List.set_cons_succ] at hK ⊢
            obtain ⟨g11, e11, hr11⟩ := h11
            have ho4 := h4
            obtain ⟨ho8, _⟩ := h8
            simp only [e11] at hK ⊢
            go_simp
            (go_at_call 23; (with_reducible refine (CR12.out g11 _ hHeld.bel hr11).mono ?_); rintro e wq ⟨vq, rfl, hoq, hbq⟩)
            try go_simp
            refine hK.out _ _ (by exact (by repeat (first | assumption | exact Below.refl _ _ | refine belDrew ?_ | refine belAlloc ?_ _ | refine belStep ?_ (by assumption)))) (by first | exact hHeld | exact SPz.step hHeld (by repeat (first | assumption | exact Below.refl _ _ | refine belDrew ?_ | refine belAlloc ?_ _ | refine belStep ?_ (by assumption)))) ?_
            exact ⟨OwnR.mono hoq hHeld.sz, own_sep ho4 hoq (Nat.le_refl _), own_sep ho8 hoq (Nat.le_refl _)⟩
        case o_15_q20 =>
          refine KrOp.of (o := ?oo_15_q20) ?hi_15_q20 (fun t u hHeld hF K hK => ?rr_15_q20)
          case hi_15_q20 => ((simp only [List.getElem?_toArray, List.getElem?_cons_succ, List.getElem?_cons_zero]); rfl)
          case rr_15_q20 =>
            clear hF
            simp only [setl, List.foldl_cons, List.foldl_nil, Act.put, List.setIfInBounds_toArray, List.set_cons_zero, List.set_cons_succ] at hK ⊢
            go_simp
            refine hK.out _ _ (by exact (by repeat (first | assumption | exact Below.refl _ _ | refine belDrew ?_ | refine belAlloc ?_ _ | refine belStep ?_ (by assumption)))) (by first | exact hHeld | exact SPz.step hHeld (by repeat (first | assumption | exact Below.refl _ _ | refine belDrew ?_ | refine belAlloc ?_ _ | refine belStep ?_ (by assumption)))) ?_
            exact ⟨_, rfl, row_of_blkN (n := 1) (k := 1) (Blk.new _ [.int .i64 c.dead] 3) rfl (by decide)⟩
        case o_16_q20 =>
          refine KrOp.of (o := ?oo_16_q20) ?hi_16_q20 (fun t u hHeld hF K hK => ?rr_16_q20)
          case hi_16_q20 => ((simp only [List.getElem?_toArray, List.getElem?_cons_succ, List.getElem?_cons_zero]); rfl)
          case rr_16_q20 =>
            have h15 : ∃ g : Nat, t 48 = .slice (some ⟨g, 0, none⟩) 1 1 ∧ Row u (some ⟨g, 0, none⟩) 1 1 1 [.int .i64 c.dead] := hF 15 rfl rfl
            have h4 : OwnR u wr.heap.size 45 3 (t 37) 2 ((rowL 2 [c.per]).flatMap FldV.cells) := hF 4 rfl rfl
            have h8 : OwnR u wr.heap.size 45 3 (t 41) 2 ((rowL 3 [c.ret]).flatMap FldV.cells) ∧ Sep (t 37) (t 41) := hF 8 rfl rfl
            have h12 : OwnR u wr.heap.size 45 3 (t 45) 2 ((rowL 4 [c.age]).flatMap FldV.cells) ∧ Sep (t 37) (t 45) ∧ Sep (t 41) (t 45) := hF 12 rfl rfl
            clear hF
            simp only [setl, List.foldl_cons, List.foldl_nil, Act.put, List.setIfInBounds_toArray, List.set_cons_zero, List.set_cons_succ] at hK ⊢
            obtain ⟨g15, e15, hr15⟩ := h15
            have ho4 := h4
            obtain ⟨ho8, _⟩ := h8
            obtain ⟨ho12, _⟩ := h12
            simp only [e15] at hK ⊢
            go_simp
            (go_at_call 23; (with_reducible refine (CR16.out g15 _ hHeld.bel hr15).mono ?_); rintro e wq ⟨vq, rfl, hoq, hbq⟩)
            try go_simp
            refine hK.out _ _ (by exact (by repeat (first | assumption | exact Below.refl _ _ | refine belDrew ?_ | refine belAlloc ?_ _ | refine belStep ?_ (by assumption)))) (by first | exact hHeld | exact SPz.step hHeld (by repeat (first | assumption | exact Below.refl _ _ | refine belDrew ?_ | refine belAlloc ?_ _ | refine belStep ?_ (by assumption)))) ?_
            exact ⟨OwnR.mono hoq hHeld.sz, own_sep ho4 hoq (Nat.le_refl _), own_sep ho8 hoq (Nat.le_refl _), own_sep ho12 hoq (Nat.le_refl _)⟩
        case e_q20 =>
          intro t u hHeld hF
          have h3 : ∃ g : Nat, t 36 = .slice (some ⟨g, 0, none⟩) 1 1 ∧ Row u (some ⟨g, 0, none⟩) 1 1 1 [.int .i64 c.per] := hF 3 rfl
          have h4 : OwnR u wr.heap.size 45 3 (t 37) 2 ((rowL 2 [c.per]).flatMap FldV.cells) := hF 4 rfl
          have h7 : ∃ g : Nat, t 40 = .slice (some ⟨g, 0, none⟩) 1 1 ∧ Row u (some ⟨g, 0, none⟩) 1 1 1 [.int .i64 c.ret] := hF 7 rfl
          have h8 : OwnR u wr.heap.size 45 3 (t 41) 2 ((rowL 3 [c.ret]).flatMap FldV.cells) ∧ Sep (t 37) (t 41) := hF 8 rfl
          have h11 : ∃ g : Nat, t 44 = .slice (some ⟨g, 0, none⟩) 1 1 ∧ Row u (some ⟨g, 0, none⟩) 1 1 1 [.int .i64 c.age] := hF 11 rfl
          have h12 : OwnR u wr.heap.size 45 3 (t 45) 2 ((rowL 4 [c.age]).flatMap FldV.cells) ∧ Sep (t 37) (t 45) ∧ Sep (t 41) (t 45) := hF 12 rfl
          have h15 : ∃ g : Nat, t 48 = .slice (some ⟨g, 0, none⟩) 1 1 ∧ Row u (some ⟨g, 0, none⟩) 1 1 1 [.int .i64 c.dead] := hF 15 rfl
          have h16 : OwnR u wr.heap.size 45 3 (t 49) 2 ((rowL 5 [c.dead]).flatMap FldV.cells) ∧ Sep (t 37) (t 49) ∧ Sep (t 41) (t 49) ∧ Sep (t 45) (t 49) := hF 16 rfl
          clear hF
          simp only [setl, List.foldl_cons, List.foldl_nil, Act.put, List.setIfInBounds_toArray, List.set_cons_zero, List.set_cons_succ]
          generalize t 36 = x36 at *
          generalize t 37 = x37 at *
          generalize t 40 = x40 at *
          generalize t 41 = x41 at *
          generalize t 44 = x44 at *
          generalize t 45 = x45 at *
          generalize t 48 = x48 at *
          generalize t 49 = x49 at *
          obtain ⟨ho16, hs4_16, hs8_16, hs12_16⟩ := h16
          obtain ⟨g15, rfl, hr15⟩ := h15
          obtain ⟨ho12, hs4_12, hs8_12⟩ := h12
          obtain ⟨g11, rfl, hr11⟩ := h11
          obtain ⟨ho8, hs4_8⟩ := h8
          obtain ⟨g7, rfl, hr7⟩ := h7
          have ho4 := h4
          obtain ⟨g3, rfl, hr3⟩ := h3
          obtain ⟨b4, d4, e4, _⟩ := rowR_of_own ho4
          subst e4
          obtain ⟨b8, d8, e8, _⟩ := rowR_of_own ho8
          subst e8
          obtain ⟨b12, d12, e12, _⟩ := rowR_of_own ho12
          subst e12
          obtain ⟨b16, d16, e16, _⟩ := rowR_of_own ho16
          subst e16
          have hBu := hHeld
          refine wpAnyH_ready (rs := [17]) (by kernel_rfl) (by simp) ?_
          refine AllReadyH.cons (o := ?o1_k9) ?hi_k9 (fun K hK => ?rest_k9) AllReadyH.nil
          case hi_k9 => ((simp only [List.getElem?_toArray, List.getElem?_cons_succ, List.getElem?_cons_zero]); rfl)
          go_simp
          refine hK.out _ _ (by first | exact hHeld | exact SPz.step hHeld (by repeat (first | assumption | exact Below.refl _ _ | refine belDrew ?_ | refine belAlloc ?_ _ | refine belStep ?_ (by assumption)))) (fun hHeld => ?_)
          clear hK K
          try simp only [Act.put, List.setIfInBounds_toArray, List.set_cons_zero, List.set_cons_succ]
          have hRX := (show Row (u.alloc (.cells #[.slice b4 2 d4, .slice b8 2 d8, .slice b12 2 d12, .slice b16 2 d16] 43)) (some ⟨u.heap.size, 0, none⟩) 4 4 1 [.slice b4 2 d4, .slice b8 2 d8, .slice b12 2 d12, .slice b16 2 d16] from row_of_blkN (n := 4) (k := 1) (Blk.new u [.slice b4 2 d4, .slice b8 2 d8, .slice b12 2 d12, .slice b16 2 d16] 43) rfl (by decide))
          have hB9 := hHeld
          have hO9 := hB9.rows.out
          rw [HLN.out] at hO9
          refine wpAnyH_ready (rs := [18]) (by kernel_rfl) (by simp) ?_
          refine AllReadyH.cons (o := ?o1_t18) ?hi_t18 (fun K hK => ?rest_t18) AllReadyH.nil
          case hi_t18 => ((simp only [List.getElem?_toArray, List.getElem?_cons_succ, List.getElem?_cons_zero]); rfl)
          refine op_appZ rfl _ _ 36 rfl w2.heap.size 43 _ 1 24 Tryz.underlying36 info_row rfl (by decide) _ (c.T.length + 2) _ (by rfl) hO9 _ 4 4 [.slice b4 2 d4, .slice b8 2 d8, .slice b12 2 d12, .slice b16 2 d16] (by rfl) hRX (fun u hu => by simp at hu; rcases hu with rfl | rfl | rfl | rfl <;> rfl) (by unfold maxLen; omega) (by omega) hB9.bel.size ?_
          intro v6 w6 ho6 hg6 hm6 hb6
          have hS6 := hB9.app (by rw [HLN.out]; exact hm6) hg6 hb6
          have hP6 := RowsF.more4 (F := rowL 2 [c.per]) (G := rowL 3 [c.ret]) (H := rowL 4 [c.age]) (I := rowL 5 [c.dead]) HRW.out HBW.out.size hB9.rows (ho4.alloc _) (ho8.alloc _) (ho12.alloc _) (ho16.alloc _) hs4_8 hs4_12 hs4_16 hs8_12 hs8_16 hs12_16 (by rw [HLN.out]; exact ho6) hg6
          rw [show upTo c c.T.length ++ [rowL 2 [c.per], rowL 3 [c.ret], rowL 4 [c.age], rowL 5 [c.dead]] = printC c from printC_is c] at hP6
          refine hK.out _ _ (by exact hS6) (fun hHeld => ?_)
          clear hK K
          try simp only [Act.put, List.setIfInBounds_toArray, List.set_cons_zero, List.set_cons_succ]
          refine wpAnyH_ready (rs := [19]) (by kernel_rfl) (by simp) ?_
          refine AllReadyH.cons (o := ?o1_k10) ?hi_k10 (fun K hK => ?rest_k10) AllReadyH.nil
          case hi_k10 => ((simp only [List.getElem?_toArray, List.getElem?_cons_succ, List.getElem?_cons_zero]); rfl)
          go_simp
          refine hK.out _ _ (by first | exact hHeld | exact SPz.step hHeld (by repeat (first | assumption | exact Below.refl _ _ | refine belDrew ?_ | refine belAlloc ?_ _ | refine belStep ?_ (by assumption)))) (fun hHeld => ?_)
          clear hK K
          try simp only [Act.put, List.setIfInBounds_toArray, List.set_cons_zero, List.set_cons_succ]
          refine wpAnyH_done (by kernel_rfl) ?_ _
          have HP6 := Lib.hid hP6
          have HB6 := Lib.hid hS6.bel
          clear hHeld hS6 ho4 ho8 ho12 ho16 hg6 hm6 hb6 hRX hO9
          obtain ⟨aj, cj, ej⟩ := HP6.out.shape
          subst ej
          have CJ := Lib.hid (lex_Join _ aj cj (printC c) _ w6 HP6.out (HM.out trivial))
          obtain ⟨nl, hnl⟩ : ∃ n, (printC c).length = n := ⟨_, rfl⟩
          rw [hnl] at CJ HP6 ⊢
          clear hnl
          go_wp2_with (go_at_call 25; (with_reducible refine (CJ.out).mono ?_); rintro e w7 ⟨rfl, hb7⟩; have HB7 := Lib.hid hb7; clear hb7)
          go_ret2
          exact ⟨rfl, belStep HW.out (belStep HB2.out (belStep HB6.out HB7.out))⟩
end Go.Proofs.YtcaenbobfneejaaGreatDoor
namespace Go.Proofs.YtcaenbobfneejaaGreatDoor
open Go.RowKit
set_option linter.unusedVariables false
set_option linter.unusedSimpArgs false
def rowB (j : Nat) (ns : List Int) : List UInt8 := kwL j ++ ns.flatMap (fun n => 32 :: (prAll n).data.toList)
theorem bA_b (s : ByteArray) : s = bA s.data.toList := (bA_self s).symm
theorem rowB_next (X : List UInt8) (j : Nat) (ns : List Int) (n : Int) : bA (X ++ rowB j ns) ++ ⟨#[32]⟩ ++ prAll n = bA (X ++ rowB j (ns ++ [n])) := by
  rw [bA_b (prAll n), show (⟨#[32]⟩ : ByteArray) = bA [32] from rfl, bA_app, bA_app]
  congr 1
  unfold rowB
  simp [bA_data]
theorem prAll_sizeC (n : Int) (h : InI n) : (prAll n).size ≤ 23 := by
  by_cases g : 1 ≤ n
  · exact pr_size6 n h.2 g
  · unfold prAll; rw [if_pos (by omega)]; decide
theorem prAll_lenC (n : Int) (h : InI n) : (prAll n).data.toList.length ≤ 23 := by
  have := prAll_sizeC n h
  rw [← bA_size, bA_self]
  exact this
theorem kwL_len (j : Nat) : (kwL j).length ≤ 11 := by unfold kwL; split <;> decide
theorem rowB_len (j : Nat) (ns : List Int) (h : ∀ n ∈ ns, InI n) : (rowB j ns).length ≤ 11 + 24 * ns.length := by
  have h1 : (ns.flatMap (fun n => 32 :: (prAll n).data.toList)).length ≤ 24 * ns.length := by
    induction ns with
    | nil => simp
    | cons n r ih =>
      have h2 := ih (fun m hm => h m (List.mem_cons_of_mem _ hm))
      have h3 := prAll_lenC n (h n (List.mem_cons_self ..))
      rw [List.flatMap_cons, List.length_append, List.length_cons, List.length_cons]
      omega
  have h2 := kwL_len j
  unfold rowB
  rw [List.length_append]
  omega
def thrT (L : List ThrV) : List UInt8 := L.flatMap (fun t => tkw ++ 32 :: (prThr t).data.toList ++ [10])
theorem thrT_next (X : List UInt8) (L : List ThrV) (t : ThrV) : bA (X ++ thrT L) ++ ⟨#[116, 104, 114, 101, 115, 104, 111, 108, 100, 32]⟩ ++ prThr t ++ ⟨#[10]⟩ = bA (X ++ thrT (L ++ [t])) := by
  rw [bA_b (prThr t), show (⟨#[116, 104, 114, 101, 115, 104, 111, 108, 100, 32]⟩ : ByteArray) = bA (tkw ++ [32]) from rfl, show (⟨#[10]⟩ : ByteArray) = bA [10] from rfl, bA_app, bA_app, bA_app]
  congr 1
  unfold thrT
  simp [bA_data]
theorem thrT_len (L : List ThrV) (h : ∀ t ∈ L, t.right = true ∧ InI t.amt) : (thrT L).length ≤ 1011 * L.length := by
  unfold thrT
  induction L with
  | nil => simp
  | cons t r ih =>
    have h2 := ih (fun m hm => h m (List.mem_cons_of_mem _ hm))
    obtain ⟨h3, h4⟩ := h t (List.mem_cons_self ..)
    have h5 := prThr_size h3 h4.2
    have h6 : (prThr t).data.toList.length ≤ 1000 := by rw [← bA_size, bA_self]; exact h5
    have h7 : tkw.length = 9 := rfl
    rw [List.flatMap_cons, List.length_append, List.length_append, List.length_append, List.length_cons, List.length_cons, List.length_cons, List.length_nil]
    omega
theorem start_b (c : CfM) : bA ([] ++ rowB 0 ([c.k0, c.k1, c.k2].take 3)) ++ ⟨#[10, 97, 108, 108, 111, 99, 97, 116, 97, 98, 108, 101]⟩ = bA ((rowB 0 [c.k0, c.k1, c.k2] ++ [10]) ++ rowB 1 ([c.a0, c.a1, c.a2].take 0)) := by
  rw [show (⟨#[10, 97, 108, 108, 111, 99, 97, 116, 97, 98, 108, 101]⟩ : ByteArray) = bA (10 :: kwL 1) from rfl, bA_app]
  congr 1
  simp [rowB]
def headT (c : CfM) : List UInt8 := rowB 0 [c.k0, c.k1, c.k2] ++ [10] ++ rowB 1 [c.a0, c.a1, c.a2] ++ [10]
theorem start_c (c : CfM) : bA ((rowB 0 [c.k0, c.k1, c.k2] ++ [10]) ++ rowB 1 ([c.a0, c.a1, c.a2].take 3)) ++ ⟨#[10]⟩ = bA (headT c ++ thrT (c.T.take 0)) := by
  rw [show (⟨#[10]⟩ : ByteArray) = bA [10] from rfl, bA_app]
  congr 1
  simp [headT, thrT]
theorem end_d (X : List UInt8) (a b c d : Int) : bA X ++ ⟨#[112, 101, 114, 105, 111, 100, 32]⟩ ++ prAll a ++ ⟨#[10, 114, 101, 116, 114, 105, 101, 115, 32]⟩ ++ prAll b ++ ⟨#[10, 109, 97, 120, 97, 103, 101, 32]⟩ ++ prAll c ++ ⟨#[10, 100, 101, 97, 100, 32]⟩ ++ prAll d ++ ⟨#[10]⟩ = bA (X ++ rowB 2 [a] ++ [10] ++ rowB 3 [b] ++ [10] ++ rowB 4 [c] ++ [10] ++ rowB 5 [d] ++ [10]) := by
  rw [bA_b (prAll a), bA_b (prAll b), bA_b (prAll c), bA_b (prAll d), show (⟨#[112, 101, 114, 105, 111, 100, 32]⟩ : ByteArray) = bA (kwL 2 ++ [32]) from rfl, show (⟨#[10, 114, 101, 116, 114, 105, 101, 115, 32]⟩ : ByteArray) = bA (10 :: (kwL 3 ++ [32])) from rfl, show (⟨#[10, 109, 97, 120, 97, 103, 101, 32]⟩ : ByteArray) = bA (10 :: (kwL 4 ++ [32])) from rfl, show (⟨#[10, 100, 101, 97, 100, 32]⟩ : ByteArray) = bA (10 :: (kwL 5 ++ [32])) from rfl, show (⟨#[10]⟩ : ByteArray) = bA [10] from rfl]
  simp only [bA_app]
  congr 1
  simp [rowB, bA_data]
theorem headT_len (c : CfM) (h : c.ok) : (headT c).length ≤ 168 := by
  have h1 := rowB_len 0 [c.k0, c.k1, c.k2] (by intro n hn; simp at hn; rcases hn with rfl | rfl | rfl; exact h.ck.1; exact h.ck.2.1; exact h.ck.2.2)
  have h2 := rowB_len 1 [c.a0, c.a1, c.a2] (by intro n hn; simp at hn; rcases hn with rfl | rfl | rfl; exact h.ca.1; exact h.ca.2.1; exact h.ca.2.2)
  simp only [List.length_cons, List.length_nil] at h1 h2
  unfold headT
  simp only [List.length_append, List.length_cons, List.length_nil]
  omega
def textC (c : CfM) : List UInt8 := rowB 0 [c.k0, c.k1, c.k2] ++ [10] ++ rowB 1 [c.a0, c.a1, c.a2] ++ [10] ++ thrT c.T ++ rowB 2 [c.per] ++ [10] ++ rowB 3 [c.ret] ++ [10] ++ rowB 4 [c.age] ++ [10] ++ rowB 5 [c.dead] ++ [10]
theorem words_row (j : Nat) (ns : List Int) : wordsF true (rowL j ns) = rowB j ns := by
  unfold rowL rowB
  have h : ∀ (l : List Int), wordsF false (l.map (fun n => wordV (prAll n).data.toList)) = l.flatMap (fun n => 32 :: (prAll n).data.toList) := by
    intro l
    induction l with
    | nil => rfl
    | cons n r ih => rw [List.map_cons, List.flatMap_cons, ← ih]; simp [wordsF, wordV]
  rw [← h]
  simp [wordsF, wordV]
theorem words_thr (t : ThrV) : wordsF true (thrL t) = tkw ++ 32 :: (prThr t).data.toList := by
  unfold thrL
  simp [wordsF, wordV]
theorem join_thr (T : List ThrV) : joinF (T.map thrL) = thrT T := by
  unfold joinF thrT
  induction T with
  | nil => rfl
  | cons t r ih => rw [List.map_cons, List.flatMap_cons, ih, List.flatMap_cons, words_thr]
theorem joinF_appC (X Y : List (List FldV)) : joinF (X ++ Y) = joinF X ++ joinF Y := by unfold joinF; rw [List.flatMap_append]
theorem textC_is (c : CfM) : joinF (printC c) = textC c := by
  unfold printC textC
  rw [joinF_appC, joinF_appC, join_thr]
  unfold joinF
  simp only [List.flatMap_cons, List.flatMap_nil, words_row, List.append_nil, List.append_assoc]
end Go.Proofs.YtcaenbobfneejaaGreatDoor
namespace Go.Proofs.YtcaenbobfneejaaGreatDoor
open Go.RowKit
set_option linter.unusedVariables false
set_option linter.unusedSimpArgs false
end Go.Proofs.YtcaenbobfneejaaGreatDoor
