
/- rank.Order, rank.First: contracts. -/
import Derived.Test.YtcgpmihjodolmaaRk3
namespace Go.Proofs.Ytcgpmihjodolmaa
open Go.RowKit
set_option linter.unusedVariables false
set_option linter.unusedSimpArgs false
theorem info_string : (Try.prog.info? 9).map (fun i => (i.zero, i.size, i.bytes)) = some (some (.string ⟨#[]⟩), 1, 16) := by kernel_rfl
theorem info_key : (Try.prog.info? 98).map (fun i => (i.zero, i.size, i.bytes)) = some (some (.agg #[.int .i64 0, .int .i64 0, .int .i64 0, .string ⟨#[]⟩]), 4, 40) := by kernel_rfl
theorem sort_keys {w : World} {B : Nat} {v : Value} {n : Nat} {L : List KeyV} (hd : Tied (ltOf cfK) L) (hl : L.length ≤ 100000) (h : OwnR w B 98 4 v n (L.flatMap KeyV.cells)) (hn : L.length = n) :
    Calls Try.prog 61 #[v, .func (.func 59) #[] #[]] w fun e w' => e = .returned (.tuple #[]) ∧ OwnR w' B 98 4 v n ((sortBy (ltOf cfK) L).flatMap KeyV.cells) ∧ w.grownBy w' v.ownBlock := by
  rcases own_sort KeyV.cells 4 KeyV.cells_len h hn with ⟨rfl, h0⟩ | ⟨g, cap, rfl, hB, hg, hH, hO, hG⟩
  · subst h0
    have hnil : L = [] := List.eq_nil_of_length_eq_zero hn
    subst hnil
    refine (Try.slices_SortFunc_none_f61 (α := KeyV) none 0 (.func (.func 59) #[] #[]) w).mono ?_
    rintro e w' ⟨rfl, rfl⟩
    exact ⟨rfl, by rw [show sortBy (ltOf cfK) [] = [] from sortBy_nil]; exact h, ⟨rfl, rfl, rfl, Nat.le_refl _, fun _ _ _ => rfl⟩⟩
  · have eg : ∀ args w, (callFunc 59 args).run Try.prog w = .ok (.enter 59 args) w := enters_of Try.func59 (by kernel_rfl) rfl
    have hc := Try.slices_SortFunc_f61 4 Try.isAgg98 Try.sizeOf98 KeyV.cells KeyV.cells_len (fun x => key_one x) cfK (swo_cfK) 59 #[] g 0 cap L.toArray w eg (fun _ _ _ _ x y => (rk_compare x y _).mono fun _ _ ⟨h1, h2⟩ => ⟨h1, h2⟩) hH hg (by simp; omega)
    rw [show L.toArray.size = n by simpa using hn] at hc
    refine hc.mono ?_
    rintro e w' ⟨rfl, d', m, os, hp, hs, rfl⟩
    have hsz : d'.size = n := by have := hp.1; simpa [hn] using this
    have hperm : d'.toList.Perm L := by
      have h3 := hp.2.2
      rw [← hn, show L.length = L.toArray.size by simp, Array.extract_size, show L.toArray.size = d'.size by simp [hsz, hn], Array.extract_size] at h3
      exact h3
    have hpw : d'.toList.Pairwise (fun x y => ltOf cfK y x = false) := by
      rw [List.pairwise_iff_getElem]
      intro i j hi hj hij
      have hi' : i < d'.size := by simpa using hi
      have hj' : j < d'.size := by simpa using hj
      have := hs i j (Nat.zero_le _) hij (by omega)
      rw [getElem!_pos d' j hj', getElem!_pos d' i hi'] at this
      simpa using this
    have he : d'.toList = sortBy (ltOf cfK) L := sortBy_unique (swo_cfK) hd hperm hpw
    have hda : d' = (sortBy (ltOf cfK) L).toArray := by rw [← he]
    subst hda
    exact ⟨rfl, hO m (sortBy (ltOf cfK) L) os (by rw [show (sortBy (ltOf cfK) L).length = L.length from sortBy_len _ _]; exact hn), hG m _ os⟩
theorem keys_tied {g : Nat} {T : List EntV} {U : List UseV} (hd : Dist (podsOf T)) : Tied (ltOf cfK) (keysF g T U) := by
  intro x hx y hy h1 h2
  have e := cfK_zero (ord_cfK.tie h1 h2)
  unfold keysF at hx hy
  obtain ⟨p, hp, rfl⟩ := List.mem_map.1 hx
  obtain ⟨q, hq, rfl⟩ := List.mem_map.1 hy
  have hp2 : p.pod ∈ podsOf T := List.mem_map.2 ⟨p, (List.mem_filter.1 hp).1, rfl⟩
  have hq2 : q.pod ∈ podsOf T := List.mem_map.2 ⟨q, (List.mem_filter.1 hq).1, rfl⟩
  have := hd.mem hp2 hq2 e
  rw [this]
theorem keys_next {g : Nat} {T : List EntV} {U : List UseV} {k : Nat} {x : EntV} (h : T[k]? = some x) (hm : mayE x = true) : keysF g (T.take (k + 1)) U = keysF g (T.take k) U ++ [keyF g x.pod U] := by
  unfold keysF; rw [filtG_next h hm, List.map_append]; rfl
theorem keys_same {g : Nat} {T : List EntV} {U : List UseV} {k : Nat} {x : EntV} (h : T[k]? = some x) (hm : mayE x = false) : keysF g (T.take (k + 1)) U = keysF g (T.take k) U := by
  unfold keysF; rw [filtG_same h hm]
theorem keys_len (g : Nat) (T : List EntV) (U : List UseV) (k : Nat) : (keysF g (T.take k) U).length ≤ T.length := by
  unfold keysF; rw [List.length_map]; exact filtG_len _ _ _
theorem order_len (g : Nat) (T : List EntV) (U : List UseV) : (orderF g T U).length ≤ T.length := by
  unfold orderF sortK; rw [List.length_map, sortBy_len]
  have := keys_len g T U T.length
  rwa [List.take_length] at this
def TextsP (w : World) (G : List ByteArray) (e : Ending) (w' : World) : Prop := ∃ b n, e = .returned (.slice b G.length n) ∧ OwnR w' w.heap.size 9 1 (.slice b G.length n) G.length (G.map Value.string)
set_option maxRecDepth 100000 in
set_option maxHeartbeats 16000000 in
theorem rk_Order (g : Nat) (G : Int) (ta : Option Addr) (tlen tcap : Nat) (T : List EntV) (t x0 x1 x2 : Int) (a : Option Addr) (len cap : Nat) (U : List UseV) (w : World) (hg : g < 3) (hG : G = g) (hT : TabOK T) (htok : ∀ x ∈ T, x.ok) (htl : T.length = tlen) (hTR : Row w ta tlen tcap 12 (T.flatMap EntV.cells)) (hU : ∀ u ∈ U, UseOK u) (hl : U.length = len) (hR : Row w a len cap 4 (U.flatMap UseV.cells)) :
    Calls Try.prog 46 #[.int .i64 G, .slice ta tlen tcap, .agg #[.int .i64 t, .int .i64 x0, .int .i64 x1, .int .i64 x2, .slice a len cap]] w fun e w' => TextsP w (orderF g T U) e w' ∧ Below w.heap.size w w' := by
  have hw : Below w.heap.size w w := Below.refl _ _
  have hbel := hw
  have hbd_t : tlen ≤ tcap ∧ tcap ≤ 9223372036854775807 := by obtain ⟨_, h1, h2, _⟩ := hTR; unfold maxLen at h2; exact ⟨h1, h2⟩
  obtain ⟨hbd1_t, hbd2_t⟩ := hbd_t
  have hlen := hT.len
  have HTT := Lib.hid hT
  have HTO := Lib.hid htok
  have HTR := Lib.hid hTR
  have HR := Lib.hid hR
  have HU := Lib.hid hU
  have HGG := Lib.hid hG
  clear hR hU hT htok hTR hG
  subst hl htl
  go_enter Try.func46, Try.ntmps46
  go_upto_region 1 with fail
  have sp0 : (w.alloc (.cells #[.int .i64 t, .int .i64 x0, .int .i64 x1, .int .i64 x2, .slice a U.length cap] 32)).cell? ⟨w.heap.size, 0, none⟩ = some (.int .i64 t) := by first | (simp; done) | (rw [World.cell?_alloc_at _ _ _ _ (by simp)]; rfl) | (rw [World.cell?_alloc_past _ _ _ (by simp <;> omega), World.cell?_alloc_at _ _ _ _ (by simp)]; rfl) | (rw [World.cell?_alloc_past _ _ _ (by simp <;> omega), World.cell?_alloc_past _ _ _ (by simp <;> omega), World.cell?_alloc_at _ _ _ _ (by simp)]; rfl)
  have sp1 : (w.alloc (.cells #[.int .i64 t, .int .i64 x0, .int .i64 x1, .int .i64 x2, .slice a U.length cap] 32)).cell? ⟨w.heap.size, 1, none⟩ = some (.int .i64 x0) := by first | (simp; done) | (rw [World.cell?_alloc_at _ _ _ _ (by simp)]; rfl) | (rw [World.cell?_alloc_past _ _ _ (by simp <;> omega), World.cell?_alloc_at _ _ _ _ (by simp)]; rfl) | (rw [World.cell?_alloc_past _ _ _ (by simp <;> omega), World.cell?_alloc_past _ _ _ (by simp <;> omega), World.cell?_alloc_at _ _ _ _ (by simp)]; rfl)
  have sp2 : (w.alloc (.cells #[.int .i64 t, .int .i64 x0, .int .i64 x1, .int .i64 x2, .slice a U.length cap] 32)).cell? ⟨w.heap.size, 2, none⟩ = some (.int .i64 x1) := by first | (simp; done) | (rw [World.cell?_alloc_at _ _ _ _ (by simp)]; rfl) | (rw [World.cell?_alloc_past _ _ _ (by simp <;> omega), World.cell?_alloc_at _ _ _ _ (by simp)]; rfl) | (rw [World.cell?_alloc_past _ _ _ (by simp <;> omega), World.cell?_alloc_past _ _ _ (by simp <;> omega), World.cell?_alloc_at _ _ _ _ (by simp)]; rfl)
  have sp3 : (w.alloc (.cells #[.int .i64 t, .int .i64 x0, .int .i64 x1, .int .i64 x2, .slice a U.length cap] 32)).cell? ⟨w.heap.size, 3, none⟩ = some (.int .i64 x2) := by first | (simp; done) | (rw [World.cell?_alloc_at _ _ _ _ (by simp)]; rfl) | (rw [World.cell?_alloc_past _ _ _ (by simp <;> omega), World.cell?_alloc_at _ _ _ _ (by simp)]; rfl) | (rw [World.cell?_alloc_past _ _ _ (by simp <;> omega), World.cell?_alloc_past _ _ _ (by simp <;> omega), World.cell?_alloc_at _ _ _ _ (by simp)]; rfl)
  have sp4 : (w.alloc (.cells #[.int .i64 t, .int .i64 x0, .int .i64 x1, .int .i64 x2, .slice a U.length cap] 32)).cell? ⟨w.heap.size, 4, none⟩ = some (.slice a U.length cap) := by first | (simp; done) | (rw [World.cell?_alloc_at _ _ _ _ (by simp)]; rfl) | (rw [World.cell?_alloc_past _ _ _ (by simp <;> omega), World.cell?_alloc_at _ _ _ _ (by simp)]; rfl) | (rw [World.cell?_alloc_past _ _ _ (by simp <;> omega), World.cell?_alloc_past _ _ _ (by simp <;> omega), World.cell?_alloc_at _ _ _ _ (by simp)]; rfl)
  have hb2 := (by repeat (first | exact hbel | refine belAlloc ?_ _ | refine belDrew ?_ | refine belSet ?_ _ _ (by simp)) : Below w.heap.size w (w.alloc (.cells #[.int .i64 t, .int .i64 x0, .int .i64 x1, .int .i64 x2, .slice a U.length cap] 32)))
  replace hw := belStep hw hb2
  clear hb2 hbel
  generalize w.alloc (.cells #[.int .i64 t, .int .i64 x0, .int .i64 x1, .int .i64 x2, .slice a U.length cap] 32) = W1 at *
  replace sp0 := keep sp0
  replace sp1 := keep sp1
  replace sp2 := keep sp2
  replace sp3 := keep sp3
  replace sp4 := keep sp4
  have hbel : Below W1.heap.size W1 W1 := Below.refl _ _
  skip
  have HRL := Lib.hid (fun u (hu : Below W1.heap.size W1 u) => HTR.out.later (belStep hw hu))
  have HUL := Lib.hid (fun u (hu : Below W1.heap.size W1 u) => HR.out.later (belStep hw hu))
  have hsz1 : w.heap.size ≤ W1.heap.size := hw.size
  have HB := Lib.hid hbel
  clear hbel
  go_wp2
  go_loopw [7, 15] (fun kv i wr => ∃ k : Nat, k ≤ T.length ∧ i = .int .i64 k ∧ OwnR wr W1.heap.size 98 4 kv (keysF g (T.take k) U).length ((keysF g (T.take k) U).flatMap KeyV.cells) ∧ Below W1.heap.size W1 wr) (fun _ i _ => T.length - (intOf i).toNat)
  case atStart => exact ⟨0, Nat.zero_le _, rfl, OwnR.nil _ _ _ _, HB.out⟩
  case round =>
    obtain ⟨k, hk, rfl, hS, hbel⟩ := hrel
    clear HB
    by_cases hlt : k < T.length
    · obtain ⟨x, hx⟩ : ∃ x, T[k]? = some x := ⟨T[k], List.getElem?_eq_getElem hlt⟩
      obtain ⟨bc, oc, ec, _, hcc⟩ := (HRL.out _ hbel).elem EntV.cells_len (by omega) hx
      subst ec
      have c0 := keep (hcc 0 _ rfl)
      have c1 := keep (hcc 1 _ rfl)
      have c2 := keep (hcc 2 _ rfl)
      have c3 := keep (hcc 3 _ rfl)
      have c4 := keep (hcc 4 _ rfl)
      have c5 := keep (hcc 5 _ rfl)
      have c6 := keep (hcc 6 _ rfl)
      have c7 := keep (hcc 7 _ rfl)
      have c8 := keep (hcc 8 _ rfl)
      have c9 := keep (hcc 9 _ rfl)
      have c10 := keep (hcc 10 _ rfl)
      have c11 := keep (hcc 11 _ rfl)
      rw [Nat.add_zero] at c0
      have hd : decide ((k : Int) < (T.length : Int)) = true := decide_eq_true (by omega)
      have HX := Lib.hid hx
      have hxo := HTO.out x (List.mem_of_getElem? hx)
      have hxr := (HTT.out.right x (List.mem_of_getElem? hx)).1
      have hkl := keys_len g T U k
      have CM := Lib.hid (fun u => rk_May x u)
      have CK := Lib.hid (fun u (hu : Below W1.heap.size W1 u) => rk_keyOf g G x.pod t x0 x1 x2 a U.length cap U u hg HGG.out hxo.1 hxr HU.out rfl (HUL.out u hu))
      obtain ⟨m, hm⟩ : ∃ b, mayE x = b := ⟨_, rfl⟩
      have HNX := Lib.hid (fun q => keys_next (g := g) (U := U) hx q)
      have HNS := Lib.hid (fun q => keys_same (g := g) (U := U) hx q)
      rw [hm] at CM HNX HNS
      clear hm hx hcc hxo hxr
      obtain ⟨kx, hkx⟩ : ∃ q, keyF g x.pod U = q := ⟨_, rfl⟩
      rw [hkx] at CK HNX
      unfold KeyV.v at CK
      clear hkx
      obtain ⟨N, hN⟩ : ∃ N, keysF g (T.take k) U = N := ⟨_, rfl⟩
      rw [hN] at hS HNX HNS hkl
      clear hN
      have hSk : ∀ u, Below wr.heap.size wr u → OwnR u W1.heap.size 98 4 u7 N.length (N.flatMap KeyV.cells) := fun u hu => OwnR.later hS hu
      clear hS
      have HBW := Lib.hid hbel
      replace sp0 := keepOnP sp0 hbel
      replace sp1 := keepOnP sp1 hbel
      replace sp2 := keepOnP sp2 hbel
      replace sp3 := keepOnP sp3 hbel
      replace sp4 := keepOnP sp4 hbel
      replace hw := belStep hw hbel
      clear hbel
      generalize wr = W2 at *
      have hbel : Below W2.heap.size W2 W2 := Below.refl _ _
      go_upto_region 5 with fail
      have HBX := Lib.hid (belStep HBW.out (belAlloc (Below.refl W2.heap.size W2) (.cells #[.string x.pod.id, .int .i64 x.pod.prio, .bool x.pod.crit, .int .i64 x.pod.r0, .int .i64 x.pod.r1, .int .i64 x.pod.r2, .int .i64 x.pod.l0, .int .i64 x.pod.l1, .int .i64 x.pod.l2, .string x.pod.img, .int .i64 x.pod.size, .int .i64 x.phase] 66)))
      have ee0 : (W2.alloc (.cells #[.string x.pod.id, .int .i64 x.pod.prio, .bool x.pod.crit, .int .i64 x.pod.r0, .int .i64 x.pod.r1, .int .i64 x.pod.r2, .int .i64 x.pod.l0, .int .i64 x.pod.l1, .int .i64 x.pod.l2, .string x.pod.img, .int .i64 x.pod.size, .int .i64 x.phase] 66)).cell? ⟨W2.heap.size, 0, none⟩ = some (.string x.pod.id) := by first | (simp; done) | (rw [World.cell?_alloc_at _ _ _ _ (by simp)]; rfl) | (rw [World.cell?_alloc_past _ _ _ (by simp <;> omega), World.cell?_alloc_at _ _ _ _ (by simp)]; rfl) | (rw [World.cell?_alloc_past _ _ _ (by simp <;> omega), World.cell?_alloc_past _ _ _ (by simp <;> omega), World.cell?_alloc_at _ _ _ _ (by simp)]; rfl)
      have ee1 : (W2.alloc (.cells #[.string x.pod.id, .int .i64 x.pod.prio, .bool x.pod.crit, .int .i64 x.pod.r0, .int .i64 x.pod.r1, .int .i64 x.pod.r2, .int .i64 x.pod.l0, .int .i64 x.pod.l1, .int .i64 x.pod.l2, .string x.pod.img, .int .i64 x.pod.size, .int .i64 x.phase] 66)).cell? ⟨W2.heap.size, 1, none⟩ = some (.int .i64 x.pod.prio) := by first | (simp; done) | (rw [World.cell?_alloc_at _ _ _ _ (by simp)]; rfl) | (rw [World.cell?_alloc_past _ _ _ (by simp <;> omega), World.cell?_alloc_at _ _ _ _ (by simp)]; rfl) | (rw [World.cell?_alloc_past _ _ _ (by simp <;> omega), World.cell?_alloc_past _ _ _ (by simp <;> omega), World.cell?_alloc_at _ _ _ _ (by simp)]; rfl)
      have ee2 : (W2.alloc (.cells #[.string x.pod.id, .int .i64 x.pod.prio, .bool x.pod.crit, .int .i64 x.pod.r0, .int .i64 x.pod.r1, .int .i64 x.pod.r2, .int .i64 x.pod.l0, .int .i64 x.pod.l1, .int .i64 x.pod.l2, .string x.pod.img, .int .i64 x.pod.size, .int .i64 x.phase] 66)).cell? ⟨W2.heap.size, 2, none⟩ = some (.bool x.pod.crit) := by first | (simp; done) | (rw [World.cell?_alloc_at _ _ _ _ (by simp)]; rfl) | (rw [World.cell?_alloc_past _ _ _ (by simp <;> omega), World.cell?_alloc_at _ _ _ _ (by simp)]; rfl) | (rw [World.cell?_alloc_past _ _ _ (by simp <;> omega), World.cell?_alloc_past _ _ _ (by simp <;> omega), World.cell?_alloc_at _ _ _ _ (by simp)]; rfl)
      have ee3 : (W2.alloc (.cells #[.string x.pod.id, .int .i64 x.pod.prio, .bool x.pod.crit, .int .i64 x.pod.r0, .int .i64 x.pod.r1, .int .i64 x.pod.r2, .int .i64 x.pod.l0, .int .i64 x.pod.l1, .int .i64 x.pod.l2, .string x.pod.img, .int .i64 x.pod.size, .int .i64 x.phase] 66)).cell? ⟨W2.heap.size, 3, none⟩ = some (.int .i64 x.pod.r0) := by first | (simp; done) | (rw [World.cell?_alloc_at _ _ _ _ (by simp)]; rfl) | (rw [World.cell?_alloc_past _ _ _ (by simp <;> omega), World.cell?_alloc_at _ _ _ _ (by simp)]; rfl) | (rw [World.cell?_alloc_past _ _ _ (by simp <;> omega), World.cell?_alloc_past _ _ _ (by simp <;> omega), World.cell?_alloc_at _ _ _ _ (by simp)]; rfl)
      have ee4 : (W2.alloc (.cells #[.string x.pod.id, .int .i64 x.pod.prio, .bool x.pod.crit, .int .i64 x.pod.r0, .int .i64 x.pod.r1, .int .i64 x.pod.r2, .int .i64 x.pod.l0, .int .i64 x.pod.l1, .int .i64 x.pod.l2, .string x.pod.img, .int .i64 x.pod.size, .int .i64 x.phase] 66)).cell? ⟨W2.heap.size, 4, none⟩ = some (.int .i64 x.pod.r1) := by first | (simp; done) | (rw [World.cell?_alloc_at _ _ _ _ (by simp)]; rfl) | (rw [World.cell?_alloc_past _ _ _ (by simp <;> omega), World.cell?_alloc_at _ _ _ _ (by simp)]; rfl) | (rw [World.cell?_alloc_past _ _ _ (by simp <;> omega), World.cell?_alloc_past _ _ _ (by simp <;> omega), World.cell?_alloc_at _ _ _ _ (by simp)]; rfl)
      have ee5 : (W2.alloc (.cells #[.string x.pod.id, .int .i64 x.pod.prio, .bool x.pod.crit, .int .i64 x.pod.r0, .int .i64 x.pod.r1, .int .i64 x.pod.r2, .int .i64 x.pod.l0, .int .i64 x.pod.l1, .int .i64 x.pod.l2, .string x.pod.img, .int .i64 x.pod.size, .int .i64 x.phase] 66)).cell? ⟨W2.heap.size, 5, none⟩ = some (.int .i64 x.pod.r2) := by first | (simp; done) | (rw [World.cell?_alloc_at _ _ _ _ (by simp)]; rfl) | (rw [World.cell?_alloc_past _ _ _ (by simp <;> omega), World.cell?_alloc_at _ _ _ _ (by simp)]; rfl) | (rw [World.cell?_alloc_past _ _ _ (by simp <;> omega), World.cell?_alloc_past _ _ _ (by simp <;> omega), World.cell?_alloc_at _ _ _ _ (by simp)]; rfl)
      have ee6 : (W2.alloc (.cells #[.string x.pod.id, .int .i64 x.pod.prio, .bool x.pod.crit, .int .i64 x.pod.r0, .int .i64 x.pod.r1, .int .i64 x.pod.r2, .int .i64 x.pod.l0, .int .i64 x.pod.l1, .int .i64 x.pod.l2, .string x.pod.img, .int .i64 x.pod.size, .int .i64 x.phase] 66)).cell? ⟨W2.heap.size, 6, none⟩ = some (.int .i64 x.pod.l0) := by first | (simp; done) | (rw [World.cell?_alloc_at _ _ _ _ (by simp)]; rfl) | (rw [World.cell?_alloc_past _ _ _ (by simp <;> omega), World.cell?_alloc_at _ _ _ _ (by simp)]; rfl) | (rw [World.cell?_alloc_past _ _ _ (by simp <;> omega), World.cell?_alloc_past _ _ _ (by simp <;> omega), World.cell?_alloc_at _ _ _ _ (by simp)]; rfl)
      have ee7 : (W2.alloc (.cells #[.string x.pod.id, .int .i64 x.pod.prio, .bool x.pod.crit, .int .i64 x.pod.r0, .int .i64 x.pod.r1, .int .i64 x.pod.r2, .int .i64 x.pod.l0, .int .i64 x.pod.l1, .int .i64 x.pod.l2, .string x.pod.img, .int .i64 x.pod.size, .int .i64 x.phase] 66)).cell? ⟨W2.heap.size, 7, none⟩ = some (.int .i64 x.pod.l1) := by first | (simp; done) | (rw [World.cell?_alloc_at _ _ _ _ (by simp)]; rfl) | (rw [World.cell?_alloc_past _ _ _ (by simp <;> omega), World.cell?_alloc_at _ _ _ _ (by simp)]; rfl) | (rw [World.cell?_alloc_past _ _ _ (by simp <;> omega), World.cell?_alloc_past _ _ _ (by simp <;> omega), World.cell?_alloc_at _ _ _ _ (by simp)]; rfl)
      have ee8 : (W2.alloc (.cells #[.string x.pod.id, .int .i64 x.pod.prio, .bool x.pod.crit, .int .i64 x.pod.r0, .int .i64 x.pod.r1, .int .i64 x.pod.r2, .int .i64 x.pod.l0, .int .i64 x.pod.l1, .int .i64 x.pod.l2, .string x.pod.img, .int .i64 x.pod.size, .int .i64 x.phase] 66)).cell? ⟨W2.heap.size, 8, none⟩ = some (.int .i64 x.pod.l2) := by first | (simp; done) | (rw [World.cell?_alloc_at _ _ _ _ (by simp)]; rfl) | (rw [World.cell?_alloc_past _ _ _ (by simp <;> omega), World.cell?_alloc_at _ _ _ _ (by simp)]; rfl) | (rw [World.cell?_alloc_past _ _ _ (by simp <;> omega), World.cell?_alloc_past _ _ _ (by simp <;> omega), World.cell?_alloc_at _ _ _ _ (by simp)]; rfl)
      have ee9 : (W2.alloc (.cells #[.string x.pod.id, .int .i64 x.pod.prio, .bool x.pod.crit, .int .i64 x.pod.r0, .int .i64 x.pod.r1, .int .i64 x.pod.r2, .int .i64 x.pod.l0, .int .i64 x.pod.l1, .int .i64 x.pod.l2, .string x.pod.img, .int .i64 x.pod.size, .int .i64 x.phase] 66)).cell? ⟨W2.heap.size, 9, none⟩ = some (.string x.pod.img) := by first | (simp; done) | (rw [World.cell?_alloc_at _ _ _ _ (by simp)]; rfl) | (rw [World.cell?_alloc_past _ _ _ (by simp <;> omega), World.cell?_alloc_at _ _ _ _ (by simp)]; rfl) | (rw [World.cell?_alloc_past _ _ _ (by simp <;> omega), World.cell?_alloc_past _ _ _ (by simp <;> omega), World.cell?_alloc_at _ _ _ _ (by simp)]; rfl)
      have ee10 : (W2.alloc (.cells #[.string x.pod.id, .int .i64 x.pod.prio, .bool x.pod.crit, .int .i64 x.pod.r0, .int .i64 x.pod.r1, .int .i64 x.pod.r2, .int .i64 x.pod.l0, .int .i64 x.pod.l1, .int .i64 x.pod.l2, .string x.pod.img, .int .i64 x.pod.size, .int .i64 x.phase] 66)).cell? ⟨W2.heap.size, 10, none⟩ = some (.int .i64 x.pod.size) := by first | (simp; done) | (rw [World.cell?_alloc_at _ _ _ _ (by simp)]; rfl) | (rw [World.cell?_alloc_past _ _ _ (by simp <;> omega), World.cell?_alloc_at _ _ _ _ (by simp)]; rfl) | (rw [World.cell?_alloc_past _ _ _ (by simp <;> omega), World.cell?_alloc_past _ _ _ (by simp <;> omega), World.cell?_alloc_at _ _ _ _ (by simp)]; rfl)
      have ee11 : (W2.alloc (.cells #[.string x.pod.id, .int .i64 x.pod.prio, .bool x.pod.crit, .int .i64 x.pod.r0, .int .i64 x.pod.r1, .int .i64 x.pod.r2, .int .i64 x.pod.l0, .int .i64 x.pod.l1, .int .i64 x.pod.l2, .string x.pod.img, .int .i64 x.pod.size, .int .i64 x.phase] 66)).cell? ⟨W2.heap.size, 11, none⟩ = some (.int .i64 x.phase) := by first | (simp; done) | (rw [World.cell?_alloc_at _ _ _ _ (by simp)]; rfl) | (rw [World.cell?_alloc_past _ _ _ (by simp <;> omega), World.cell?_alloc_at _ _ _ _ (by simp)]; rfl) | (rw [World.cell?_alloc_past _ _ _ (by simp <;> omega), World.cell?_alloc_past _ _ _ (by simp <;> omega), World.cell?_alloc_at _ _ _ _ (by simp)]; rfl)
      have hb2 := (by repeat (first | exact hbel | refine belAlloc ?_ _ | refine belDrew ?_ | refine belSet ?_ _ _ (by simp)) : Below W2.heap.size W2 (W2.alloc (.cells #[.string x.pod.id, .int .i64 x.pod.prio, .bool x.pod.crit, .int .i64 x.pod.r0, .int .i64 x.pod.r1, .int .i64 x.pod.r2, .int .i64 x.pod.l0, .int .i64 x.pod.l1, .int .i64 x.pod.l2, .string x.pod.img, .int .i64 x.pod.size, .int .i64 x.phase] 66)))
      replace sp0 := keepOnP sp0 hb2
      replace sp1 := keepOnP sp1 hb2
      replace sp2 := keepOnP sp2 hb2
      replace sp3 := keepOnP sp3 hb2
      replace sp4 := keepOnP sp4 hb2
      replace hSk := keepOnP hSk hb2
      replace c0 := keepOnP c0 hb2
      replace c1 := keepOnP c1 hb2
      replace c2 := keepOnP c2 hb2
      replace c3 := keepOnP c3 hb2
      replace c4 := keepOnP c4 hb2
      replace c5 := keepOnP c5 hb2
      replace c6 := keepOnP c6 hb2
      replace c7 := keepOnP c7 hb2
      replace c8 := keepOnP c8 hb2
      replace c9 := keepOnP c9 hb2
      replace c10 := keepOnP c10 hb2
      replace c11 := keepOnP c11 hb2
      replace hw := belStep hw hb2
      clear hb2 hbel
      generalize W2.alloc (.cells #[.string x.pod.id, .int .i64 x.pod.prio, .bool x.pod.crit, .int .i64 x.pod.r0, .int .i64 x.pod.r1, .int .i64 x.pod.r2, .int .i64 x.pod.l0, .int .i64 x.pod.l1, .int .i64 x.pod.l2, .string x.pod.img, .int .i64 x.pod.size, .int .i64 x.phase] 66) = W3 at *
      replace ee0 := keep ee0
      replace ee1 := keep ee1
      replace ee2 := keep ee2
      replace ee3 := keep ee3
      replace ee4 := keep ee4
      replace ee5 := keep ee5
      replace ee6 := keep ee6
      replace ee7 := keep ee7
      replace ee8 := keep ee8
      replace ee9 := keep ee9
      replace ee10 := keep ee10
      replace ee11 := keep ee11
      have hbel : Below W3.heap.size W3 W3 := Below.refl _ _
      skip
      rcases m with _ | _
      · have HN := Lib.hid (HNS.out rfl)
        go_wp2_with (first | (go_at_call 43; (with_reducible refine (CM.out _).mono ?_); rintro e w1 ⟨rfl, hb1⟩; replace hbel := belStep hbel hb1; clear hb1))
        go_roundw
        case rel => exact ⟨k + 1, by omega, by push_cast; rfl, by rw [HN.out]; exact hSk _ hbel, belStep HBX.out hbel⟩
        case measure => simp [intOf] <;> omega
      · have HN := Lib.hid (HNX.out rfl)
        go_wp2_with (first | (go_at_call 43; (with_reducible refine (CM.out _).mono ?_); rintro e w1 ⟨rfl, hb1⟩; replace hbel := belStep hbel hb1; clear hb1) | (go_at_call 60; (with_reducible refine (CK.out _ (belStep HBX.out hbel)).mono ?_); rintro e w5 ⟨rfl, hb5⟩; replace hbel := belStep hbel hb5; clear hb5; have HS3 := Lib.hid (OwnR.alloc (hSk _ hbel) (.cells #[.int .i64 kx.rest, .int .i64 kx.prio, .int .i64 kx.ex, .string kx.id] 98)); have HRX := Lib.hid (row_new w5 [.int .i64 kx.rest, .int .i64 kx.prio, .int .i64 kx.ex, .string kx.id] 98 1 4 rfl (by unfold maxLen; omega))) | (at_builtin; refine wpList_app_row rfl _ _ 100 rfl W1.heap.size 98 _ 4 40 Try.underlying100 info_key rfl (by decide) _ _ _ rfl HS3.out _ 1 1 [.int .i64 kx.rest, .int .i64 kx.prio, .int .i64 kx.ex, .string kx.id] rfl HRX.out (key_one kx) ?c1 ?c2 ?c3 ?_))
        case c1 => simp only [maxLen]; omega
        case c2 => omega
        case c3 => have h2 := (belStep HBX.out hbel).size; simp; omega
        intro v' w6 ho' hb' _
        have HO2 := Lib.hid (own_snocG (enc := KeyV.cells) (x := kx) ho')
        have HB2 := Lib.hid ((belAlloc (belStep HBX.out hbel) (.cells #[.int .i64 kx.rest, .int .i64 kx.prio, .int .i64 kx.ex, .string kx.id] 98)).trans hb')
        clear ho' hb' hbel
        go_wp2
        go_roundw
        case rel => exact ⟨k + 1, by omega, by push_cast; rfl, by rw [HN.out]; exact HO2.out, HB2.out⟩
        case measure => simp [intOf] <;> omega
    · obtain rfl : k = T.length := by omega
      have hd : decide ((T.length : Int) < (T.length : Int)) = false := decide_eq_false (by omega)
      rw [List.take_length] at hS
      obtain ⟨L, hL⟩ : ∃ L, keysF g T U = L := ⟨_, rfl⟩
      have HTD := Lib.hid (hL ▸ keys_tied (g := g) (U := U) HTT.out.dist)
      have hLl : L.length ≤ 64 := by have := keys_len g T U T.length; rw [List.take_length, hL] at this; omega
      have HOF := Lib.hid (show orderF g T U = (sortBy (ltOf cfK) L).map KeyV.id by unfold orderF sortK; rw [hL])
      rw [hL] at hS
      clear hL
      have CS := Lib.hid (sort_keys HTD.out (by omega) hS rfl)
      have HLT := Lib.hid (fun q hq => World.ownsRow.lt hS q hq)
      have HBR := Lib.hid hbel
      clear hS hbel
      go_upto_region 9 with (go_at_call 61; (with_reducible refine CS.out.mono ?_); rintro e w5 ⟨rfl, hO5, hg5⟩)
      have HB5 := Lib.hid (show Below W1.heap.size wr w5 from (Below.refl _ _).grown hg5 HBR.out.size fun q hq => (HLT.out q hq).1)
      obtain ⟨M, hM⟩ : ∃ M, sortBy (ltOf cfK) L = M := ⟨_, rfl⟩
      have hMl : M.length = L.length := by rw [← hM]; exact sortBy_len _ _
      rw [hM] at hO5 HOF
      clear hM CS hg5
      obtain ⟨a5, c5, e5, hr5⟩ := rowR_of_own hO5
      subst e5
      rw [← hMl] at hr5
      simp only [← hMl]
      have hbd5 : M.length ≤ c5 := by obtain ⟨_, h1, _⟩ := hr5; exact h1
      have hbd6 : c5 ≤ 9223372036854775807 := by obtain ⟨_, _, h1, _⟩ := hr5; unfold maxLen at h1; exact h1
      have HM := Lib.hid hr5
      have hM64 : M.length ≤ 64 := by omega
      clear hr5 hO5 hMl
      generalize w5 = W5 at *
      have hbel : Below W5.heap.size W5 W5 := Below.refl _ _
      go_wp2
      have HB5R := Lib.hid hbel
      clear hbel
      go_loopw [10, 34] (fun v i wr => ∃ k : Nat, k ≤ M.length ∧ i = .int .i64 k ∧ OwnR wr W5.heap.size 9 1 v ((M.take k).map KeyV.id).length (((M.take k).map KeyV.id).map Value.string) ∧ Below W5.heap.size W5 wr) (fun _ i _ => M.length - (intOf i).toNat)
      case atStart => exact ⟨0, Nat.zero_le _, rfl, OwnR.nil _ _ _ _, HB5R.out⟩
      case round =>
        obtain ⟨k, hk, rfl, hS, hbel⟩ := hrel
        clear HB5R hd
        by_cases hlt2 : k < M.length
        · obtain ⟨x, hx⟩ : ∃ x, M[k]? = some x := ⟨M[k], List.getElem?_eq_getElem hlt2⟩
          obtain ⟨bc, oc, ec, _, hcc⟩ := (HM.out.later hbel).elem KeyV.cells_len (by omega) hx
          subst ec
          have c0 := keep (hcc 0 _ rfl)
          have c1 := keep (hcc 1 _ rfl)
          have c2 := keep (hcc 2 _ rfl)
          have c3 := keep (hcc 3 _ rfl)
          rw [Nat.add_zero] at c0
          have hd : decide ((k : Int) < (M.length : Int)) = true := decide_eq_true (by omega)
          have HN := Lib.hid (mapG_next (f := KeyV.id) hx)
          have hl3 : ((M.take k).map KeyV.id).length ≤ 64 := by rw [List.length_map, List.length_take]; omega
          obtain ⟨N, hN⟩ : ∃ N, (M.take k).map KeyV.id = N := ⟨_, rfl⟩
          rw [hN] at hS HN hl3
          clear hN hx hcc
          have HS3 := Lib.hid (OwnR.alloc (OwnR.alloc hS (.cells #[.int .i64 x.rest, .int .i64 x.prio, .int .i64 x.ex, .string x.id] 98)) (.cells #[.string x.id] 9))
          have HRX := Lib.hid (row_new_at (wr.alloc (.cells #[.int .i64 x.rest, .int .i64 x.prio, .int .i64 x.ex, .string x.id] 98)) [.string x.id] 9 1 1 (wr.heap.size + 1) (by simp) rfl (by unfold maxLen; omega))
          clear hS
          have hbw := hbel
          clear hbel
          have hbel : Below wr.heap.size wr wr := Below.refl _ _
          go_wp2_with (at_builtin; refine wpList_app_row rfl _ _ 73 rfl W5.heap.size 9 _ 1 16 Try.underlying73 info_string rfl (by decide) _ _ _ rfl HS3.out _ 1 1 [.string x.id] rfl HRX.out (fun u hu => by simp at hu; subst hu; rfl) ?c1 ?c2 ?c3 ?_)
          case c1 => simp only [maxLen]; omega
          case c2 => omega
          case c3 => have h2 := hbw.size; simp; omega
          intro v' w6 ho' hb' _
          have HO2 := Lib.hid (own_snocM (enc := Value.string) (x := x.id) (by simpa using ho'))
          have HB2 := Lib.hid ((belAlloc (belAlloc hbw (.cells #[.int .i64 x.rest, .int .i64 x.prio, .int .i64 x.ex, .string x.id] 98)) (.cells #[.string x.id] 9)).trans hb')
          clear ho' hb' hbel hbw
          go_wp2
          go_roundw
          case rel => exact ⟨k + 1, by omega, by push_cast; rfl, by rw [HN.out]; exact HO2.out, HB2.out⟩
          case measure => simp [intOf] <;> omega
        · obtain rfl : k = M.length := by omega
          have hd : decide ((M.length : Int) < (M.length : Int)) = false := decide_eq_false (by omega)
          rw [List.take_length] at hS
          obtain ⟨a7, c7, e7, hr7⟩ := rowR_of_own hS
          subst e7
          have HS := Lib.hid hS
          clear hS hr7
          go_wp2
          go_ret
          refine ⟨⟨a7, c7, ?_, ?_⟩, ?_⟩
          · rw [HOF.out]; rfl
          · rw [HOF.out]; exact OwnR.mono HS.out (Nat.le_trans hsz1 (Nat.le_trans HBR.out.size HB5.out.size))
          · exact (hw.trans ((HBR.out.trans (HB5.out)).mono hsz1)).trans (hbel.mono (Nat.le_trans hsz1 (Nat.le_trans HBR.out.size HB5.out.size)))
def headS (G : List ByteArray) : ByteArray := G.headD ⟨#[]⟩
set_option maxRecDepth 100000 in
set_option maxHeartbeats 16000000 in
theorem rk_First (g : Nat) (G : Int) (ta : Option Addr) (tlen tcap : Nat) (T : List EntV) (t x0 x1 x2 : Int) (a : Option Addr) (len cap : Nat) (U : List UseV) (w : World) (hg : g < 3) (hG : G = g) (hT : TabOK T) (htok : ∀ x ∈ T, x.ok) (htl : T.length = tlen) (hTR : Row w ta tlen tcap 12 (T.flatMap EntV.cells)) (hU : ∀ u ∈ U, UseOK u) (hl : U.length = len) (hR : Row w a len cap 4 (U.flatMap UseV.cells)) :
    Calls Try.prog 47 #[.int .i64 G, .slice ta tlen tcap, .agg #[.int .i64 t, .int .i64 x0, .int .i64 x1, .int .i64 x2, .slice a len cap]] w fun e w' => e = .returned (.tuple #[.string (headS (orderF g T U)), .bool (!(orderF g T U).isEmpty)]) ∧ Below w.heap.size w w' := by
  have hw : Below w.heap.size w w := Below.refl _ _
  have hbel := hw
  have HTR := Lib.hid hTR
  have HR := Lib.hid hR
  have CO := Lib.hid (fun u (hu : Below w.heap.size w u) => rk_Order g G ta tlen tcap T t x0 x1 x2 a len cap U u hg hG hT htok htl (HTR.out.later hu) hU hl (HR.out.later hu))
  have hol := order_len g T U
  have htt := hT.len
  obtain ⟨O, hO⟩ : ∃ O, orderF g T U = O := ⟨_, rfl⟩
  rw [hO] at CO hol
  have HOO := Lib.hid hO
  clear hO hT htok hTR hU hR hG hg
  subst hl htl
  go_enter Try.func47, Try.ntmps47
  go_upto_region 1 with fail
  have sp0 : (w.alloc (.cells #[.int .i64 t, .int .i64 x0, .int .i64 x1, .int .i64 x2, .slice a U.length cap] 32)).cell? ⟨w.heap.size, 0, none⟩ = some (.int .i64 t) := by first | (simp; done) | (rw [World.cell?_alloc_at _ _ _ _ (by simp)]; rfl) | (rw [World.cell?_alloc_past _ _ _ (by simp <;> omega), World.cell?_alloc_at _ _ _ _ (by simp)]; rfl) | (rw [World.cell?_alloc_past _ _ _ (by simp <;> omega), World.cell?_alloc_past _ _ _ (by simp <;> omega), World.cell?_alloc_at _ _ _ _ (by simp)]; rfl)
  have sp1 : (w.alloc (.cells #[.int .i64 t, .int .i64 x0, .int .i64 x1, .int .i64 x2, .slice a U.length cap] 32)).cell? ⟨w.heap.size, 1, none⟩ = some (.int .i64 x0) := by first | (simp; done) | (rw [World.cell?_alloc_at _ _ _ _ (by simp)]; rfl) | (rw [World.cell?_alloc_past _ _ _ (by simp <;> omega), World.cell?_alloc_at _ _ _ _ (by simp)]; rfl) | (rw [World.cell?_alloc_past _ _ _ (by simp <;> omega), World.cell?_alloc_past _ _ _ (by simp <;> omega), World.cell?_alloc_at _ _ _ _ (by simp)]; rfl)
  have sp2 : (w.alloc (.cells #[.int .i64 t, .int .i64 x0, .int .i64 x1, .int .i64 x2, .slice a U.length cap] 32)).cell? ⟨w.heap.size, 2, none⟩ = some (.int .i64 x1) := by first | (simp; done) | (rw [World.cell?_alloc_at _ _ _ _ (by simp)]; rfl) | (rw [World.cell?_alloc_past _ _ _ (by simp <;> omega), World.cell?_alloc_at _ _ _ _ (by simp)]; rfl) | (rw [World.cell?_alloc_past _ _ _ (by simp <;> omega), World.cell?_alloc_past _ _ _ (by simp <;> omega), World.cell?_alloc_at _ _ _ _ (by simp)]; rfl)
  have sp3 : (w.alloc (.cells #[.int .i64 t, .int .i64 x0, .int .i64 x1, .int .i64 x2, .slice a U.length cap] 32)).cell? ⟨w.heap.size, 3, none⟩ = some (.int .i64 x2) := by first | (simp; done) | (rw [World.cell?_alloc_at _ _ _ _ (by simp)]; rfl) | (rw [World.cell?_alloc_past _ _ _ (by simp <;> omega), World.cell?_alloc_at _ _ _ _ (by simp)]; rfl) | (rw [World.cell?_alloc_past _ _ _ (by simp <;> omega), World.cell?_alloc_past _ _ _ (by simp <;> omega), World.cell?_alloc_at _ _ _ _ (by simp)]; rfl)
  have sp4 : (w.alloc (.cells #[.int .i64 t, .int .i64 x0, .int .i64 x1, .int .i64 x2, .slice a U.length cap] 32)).cell? ⟨w.heap.size, 4, none⟩ = some (.slice a U.length cap) := by first | (simp; done) | (rw [World.cell?_alloc_at _ _ _ _ (by simp)]; rfl) | (rw [World.cell?_alloc_past _ _ _ (by simp <;> omega), World.cell?_alloc_at _ _ _ _ (by simp)]; rfl) | (rw [World.cell?_alloc_past _ _ _ (by simp <;> omega), World.cell?_alloc_past _ _ _ (by simp <;> omega), World.cell?_alloc_at _ _ _ _ (by simp)]; rfl)
  have hb2 := (by repeat (first | exact hbel | refine belAlloc ?_ _ | refine belDrew ?_ | refine belSet ?_ _ _ (by simp)) : Below w.heap.size w (w.alloc (.cells #[.int .i64 t, .int .i64 x0, .int .i64 x1, .int .i64 x2, .slice a U.length cap] 32)))
  replace hw := belStep hw hb2
  clear hb2 hbel
  generalize w.alloc (.cells #[.int .i64 t, .int .i64 x0, .int .i64 x1, .int .i64 x2, .slice a U.length cap] 32) = W1 at *
  replace sp0 := keep sp0
  replace sp1 := keep sp1
  replace sp2 := keep sp2
  replace sp3 := keep sp3
  replace sp4 := keep sp4
  have hbel : Below W1.heap.size W1 W1 := Below.refl _ _
  skip
  go_upto_region 2 with (go_at_call 46; (with_reducible refine (CO.out _ (belStep hw hbel)).mono ?_); rintro e w2 ⟨⟨b2, n2, rfl, ho2⟩, hb2⟩; replace hbel := belStep hbel hb2)
  obtain ⟨aa, cc, ea, hr2⟩ := rowR_of_own ho2
  cases ea
  clear ho2 hb2
  cases O with
  | nil =>
    go_wp2
    go_ret2
    exact ⟨by rw [HOO.out] <;> rfl, belStep hw hbel⟩
  | cons z O =>
    obtain ⟨bb, oo, eb, cb⟩ := text_cell (G := z :: O) (k := 0) hr2 rfl
    subst eb
    rw [Nat.add_zero] at cb
    have hq : (((z :: O).length : Int) == 0) = false := beq_eq_false_iff_ne.2 (by simp only [List.length_cons]; omega)
    have h0 : 0 < (z :: O).length := by simp
    obtain ⟨n, hn⟩ : ∃ n, (z :: O).length = n := ⟨_, rfl⟩
    simp only [hn]
    simp only [hn] at hq h0
    have h0i : (0 : Int) < n := by omega
    clear hn
    go_wp2
    go_ret2
    exact ⟨by rw [HOO.out] <;> rfl, belStep hw hbel⟩
end Go.Proofs.Ytcgpmihjodolmaa
