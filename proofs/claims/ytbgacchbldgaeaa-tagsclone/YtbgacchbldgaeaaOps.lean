/-
  What is told of tags: counts, sums, slots and places. Contracts that the claimed proofs use.
-/
import Derived.Test.YtbgacchbldgaeaaMove
import Derived.Test.YtbgacchbldgaeaaLists
import Derived.Test.YtbgacchbldgaeaaSorted
import Derived.Laws.Externs
namespace Go.Proofs.Ytbgacchbldgaeaa
open Go.RowKit Go.Maps

/-- A walk over a map: these rows have come, those are left. -/
structure Wk (w W : World) (b r : Nat) (L A T : List Tr) : Prop where
  rg : Rg W b r L T
  perm : (A ++ T).Perm L
  ord : T.Pairwise ltR
  sub : ∀ x ∈ T, x ∈ L
  bel : Below w.heap.size w W
theorem Wk.begin {w W : World} {b r : Nat} {L : List Tr} (h : Rg W b r L L) (hw : Wf L) (hb : Below w.heap.size w W) : Wk w W b r L [] L := ⟨h, List.Perm.refl _, hw.ord, fun _ hx => hx, hb⟩
theorem Wk.step {w W W' : World} {b r : Nat} {L A T : List Tr} {x : Tr} (h : Wk w W b r L A T) (hx : x ∈ T) (hr : Rg W' b r L (del T x.p x.s)) (hg : W.grownBy W' (some r)) (hrw : w.heap.size ≤ r) : Wk w W' b r L (A ++ [x]) (del T x.p x.s) := by
  refine ⟨hr, ?_, h.ord.sublist List.filter_sublist, fun y hy => h.sub y (mem_del.1 hy).1, grown_new h.bel hg hrw⟩
  have h1 := perm_del h.ord hx
  rw [List.append_assoc]
  exact (List.Perm.append_left A h1.symm).trans h.perm
theorem Wk.below {w W W' : World} {b r : Nat} {L A T : List Tr} (h : Wk w W b r L A T) (hb : Below W.heap.size W W') : Wk w W' b r L A T ∧ W'.rangeLeft b r = W.rangeLeft b r := by
  obtain ⟨h1, h2⟩ := h.rg.below hb
  exact ⟨⟨h1, h.perm, h.ord, h.sub, up_trans h.bel hb⟩, h2⟩
theorem Wk.grown {w W W' : World} {b r : Nat} {L A T : List Tr} {row : Option Nat} (h : Wk w W b r L A T) (hg : W.grownBy W' row) (hne : ∀ j, row = some j → w.heap.size ≤ j ∧ j ≠ b ∧ j ≠ r) : Wk w W' b r L A T ∧ W'.rangeLeft b r = W.rangeLeft b r := by
  obtain ⟨h1, h2⟩ := h.rg.of (hg.block b h.rg.owns.lt (fun e => (hne b e.symm).2.1 rfl)) (hg.block r h.rg.lt (fun e => (hne r e.symm).2.2 rfl))
  refine ⟨⟨h1, h.perm, h.ord, h.sub, ?_⟩, h2⟩
  exact h.bel.grown hg h.bel.size (fun k e => (hne k e).1)
theorem Wk.done {w W : World} {b r : Nat} {L A T : List Tr} (h : Wk w W b r L A T) (hT : T = []) : A.Perm L := by have := h.perm; rw [hT, List.append_nil] at this; exact this
theorem Wk.len {w W : World} {b r : Nat} {L A T : List Tr} (h : Wk w W b r L A T) (hw : Wf L) : A.length ≤ 524288 := by
  have h1 := h.perm.length_eq
  have h2 := hw.len
  rw [List.length_append] at h1
  omega
theorem Wk.ok {w W : World} {b r : Nat} {L A T : List Tr} (h : Wk w W b r L A T) (hw : Wf L) : ∀ x ∈ A, x.ok = true := fun x hx => hw.ok x (h.perm.mem_iff.1 (List.mem_append_left _ hx))

set_option maxHeartbeats 2000000 in
theorem bytes_any {q b : Nat} {L : List Tr} {w : World} (h : Tg w q b L) : Calls Try.prog 18 #[.pointer (some ⟨q, 0, none⟩)] w fun e w' => e = .returned (.int .i64 (bytes L)) ∧ Below w.heap.size w w' := by
  have c1 := h.cell
  have HT := Lib.hid h
  have hbw : Hid (b < w.heap.size) := h.mp.lt
  obtain ⟨E, hE⟩ : ∃ E, bytes L = E := ⟨_, rfl⟩
  have HE := Lib.hid hE
  rw [hE]
  clear h hE
  go_enter Try.func18, Try.ntmps18
  go_wp2_with (first
    | (at_range; refine wp_range _ rfl _ rfl rfl HT.out.mp ?_; intro w0 hr0 hb0 hs0)
    | go_in)
  go_frame
  go_loopw [3] (fun c wr => ∃ A T, c = .int .i64 (bytes A) ∧ Wk w wr b w.heap.size L A T) (fun _ wr => wr.rangeLeft b w.heap.size)
  case atStart => exact ⟨[], L, rfl, Wk.begin hr0.out HT.out.wf hb0.out⟩
  case round =>
    obtain ⟨A, T, rfl, hk⟩ := hrel
    have HK := Lib.hid hk
    have hbd := bytes_bd (HK.out.ok HT.out.wf)
    have hln := HK.out.len HT.out.wf
    clear hk
    go_wp2_with (first
      | (at_next; refine wp_next _ rfl _ rfl rfl HK.out.rg HT.out.wf HK.out.sub ?_ ?_)
      | go_in)
    · intro h0
      go_wp2_with fail
      go_ret
      exact ⟨by rw [← HE.out, bytes_perm (HK.out.done h0.out)]; rfl, HK.out.bel⟩
    · intro x w1 hx hr1 hlt hg1 hs1 hen
      have HK1 := Lib.hid (HK.out.step hx.out hr1.out hg1.out (Nat.le_refl _))
      have hxo := Tr.ok_bd (HT.out.wf.ok x (HK.out.sub x hx.out))
      have hsn := Lib.hid (bytes_snoc A x)
      have hwr := i64_in (bytes A + x.z) (by omega) (by omega)
      clear hr1 hg1 hs1 hbd
      obtain ⟨p, s, k, z⟩ := x
      generalize bytes A = y at *
      go_wp2_with fail
      go_roundw
      case rel => exact ⟨A ++ [⟨p, s, k, z⟩], _, by rw [hsn.out], (HK1.out.below (up_alloc (Below.refl _ _) _)).1⟩
      case measure => rw [(HK1.out.below (up_alloc (Below.refl _ _) _)).2]; exact hlt.out
theorem same_snoc (A : List Tr) (x : Tr) (k z : Int) : (same (A ++ [x]) k z : Int) = same A k z + (if isT k z x then 1 else 0) := by
  unfold same
  rw [List.countP_append, List.countP_cons, List.countP_nil]
  cases isT k z x <;> simp
theorem same_perm {A B : List Tr} (h : A.Perm B) (k z : Int) : same A k z = same B k z := h.countP_eq _
theorem same_len (A : List Tr) (k z : Int) : same A k z ≤ A.length := List.countP_le_length
set_option maxRecDepth 100000 in
set_option maxHeartbeats 2000000 in
theorem same_any {q b : Nat} {L : List Tr} {w : World} (h : Tg w q b L) (K Z : Int) : Calls Try.prog 16 #[.pointer (some ⟨q, 0, none⟩), pv K Z] w fun e w' => e = .returned (.int .i64 (same L K Z)) ∧ Below w.heap.size w w' := by
  obtain ⟨w1, hw1⟩ : ∃ w1, w.alloc (.cells #[.int .i64 K, .int .i64 Z] 26) = w1 := ⟨_, rfl⟩
  have b1 : Below w.heap.size w w1 := by rw [← hw1]; exact up_alloc (Below.refl _ _) _
  have hbx : Blk w1 w.heap.size [.int .i64 K, .int .i64 Z] 26 := by rw [← hw1]; exact Blk.new w [.int .i64 K, .int .i64 Z] 26
  have HT := Lib.hid (h.below b1)
  have c1 := HT.out.cell
  have HX := Lib.hid hbx
  have B1 := Lib.hid b1
  obtain ⟨E, hE⟩ : ∃ E, same L K Z = E := ⟨_, rfl⟩
  have HE := Lib.hid hE
  rw [hE]
  clear h hE hbx b1
  go_enter Try.func16, Try.ntmps16
  go_wp2_with (first
    | (at_range; refine wp_range _ rfl _ rfl rfl HT.out.mp ?_; intro w0 hr0 hb0 hs0)
    | go_in)
  clear hw1
  go_frame
  go_loopw [5] (fun c wr => ∃ A T, c = .int .i64 (same A K Z : Nat) ∧ Wk w1 wr b w1.heap.size L A T) (fun _ wr => wr.rangeLeft b w1.heap.size)
  case atStart => exact ⟨[], L, rfl, Wk.begin hr0.out HT.out.wf hb0.out⟩
  case round =>
    obtain ⟨A, T, rfl, hk⟩ := hrel
    have HK := Lib.hid hk
    have hln := HK.out.len HT.out.wf
    have hsl := same_len A K Z
    clear hk
    go_wp2_with (first
      | (at_next; refine wp_next _ rfl _ rfl rfl HK.out.rg HT.out.wf HK.out.sub ?_ ?_)
      | go_in)
    · intro h0
      go_wp2_with fail
      go_ret
      exact ⟨by rw [← HE.out, same_perm (HK.out.done h0.out)]; rfl, up_trans B1.out HK.out.bel⟩
    · intro x w2 hx hr1 hlt hg1 hs1 hen
      have hk1 := HK.out.step hx.out hr1.out hg1.out (Nat.le_refl _)
      have HK1 := Lib.hid hk1
      have hsn := Lib.hid (same_snoc A x K Z)
      have hwr := i64_in ((same A K Z : Int) + 1) (by omega) (by omega)
      have hx2 := HX.out.below hk1.bel
      have hblt := hx2.lt
      have d0 : w2.cell? ⟨w.heap.size, 0, none⟩ = some (.int .i64 K) := hx2.cell
      have d1 : w2.cell? ⟨w.heap.size, 1, none⟩ = some (.int .i64 Z) := hx2.cell
      have hne : ¬ w.heap.size = w2.heap.size := by omega
      clear hr1 hg1 hs1 hk1 hx2
      obtain ⟨p, s, k, z⟩ := x
      generalize same A K Z = y at *
      have hd3 : (w2.alloc (.cells #[.int .i64 k, .int .i64 z] 26)).cell? ⟨w.heap.size, 0, none⟩ = some (.int .i64 K) := ((up_alloc (Below.refl _ w2) _).cell (p := ⟨w.heap.size, 0, none⟩) hblt).trans d0
      have hd4 : (w2.alloc (.cells #[.int .i64 k, .int .i64 z] 26)).cell? ⟨w.heap.size, 1, none⟩ = some (.int .i64 Z) := ((up_alloc (Below.refl _ w2) _).cell (p := ⟨w.heap.size, 1, none⟩) hblt).trans d1
      have hif : Hid (∀ t : Bool, (k == K && z == Z) = t → (if isT K Z ⟨p, s, k, z⟩ then (1 : Int) else 0) = if t then 1 else 0) := fun t ht => by unfold isT; rw [ht]
      by_cases e1 : k = K
      · by_cases e2 : z = Z
        · subst e1; subst e2
          have hi := hif.out true (by simp)
          have HI := Lib.hid hi
          clear hi hif
          go_wp2_with fail
          go_roundw
          case rel => exact ⟨A ++ [⟨p, s, k, z⟩], _, by rw [hsn.out, HI.out]; rfl, (HK1.out.below (up_alloc (Below.refl _ _) _)).1⟩
          case measure => rw [(HK1.out.below (up_alloc (Below.refl _ _) _)).2]; exact hlt.out
        · subst e1
          have x2 : (z == Z) = false := by simpa using e2
          have HI := Lib.hid (hif.out false (by rw [x2]; simp))
          clear hif
          go_wp2_with fail
          go_roundw
          case rel => exact ⟨A ++ [⟨p, s, k, z⟩], _, by rw [hsn.out, HI.out]; simp, (HK1.out.below (up_alloc (Below.refl _ _) _)).1⟩
          case measure => rw [(HK1.out.below (up_alloc (Below.refl _ _) _)).2]; exact hlt.out
      · have x1 : (k == K) = false := by simpa using e1
        have HI := Lib.hid (hif.out false (by rw [x1]; rfl))
        clear hif
        go_wp2_with fail
        go_roundw
        case rel => exact ⟨A ++ [⟨p, s, k, z⟩], _, by rw [hsn.out, HI.out]; simp, (HK1.out.below (up_alloc (Below.refl _ _) _)).1⟩
        case measure => rw [(HK1.out.below (up_alloc (Below.refl _ _) _)).2]; exact hlt.out
theorem of_snoc (A : List Tr) (x : Tr) (k : Int) : ofW (A ++ [x]) k = ofW A k ++ (if x.k == k then [x] else []) := by
  unfold ofW
  rw [List.filter_append]
  cases h : (x.k == k) <;> simp [h]
theorem of_len (A : List Tr) (k : Int) : (ofW A k).length ≤ A.length := List.length_filter_le _ _
set_option maxRecDepth 100000 in
set_option maxHeartbeats 4000000 in
theorem of_any {q b : Nat} {L : List Tr} {w : World} (h : Tg w q b L) (K : Int) : Calls Try.prog 10 #[.pointer (some ⟨q, 0, none⟩), .int .i64 K] w fun e w' =>
    ∃ A c, e = .returned (.slice A (ofW L K).length c) ∧ At w'.heap.size w' A (flat ((ofW L K).map plc)) ∧ Below w.heap.size w w' := by
  have c1 := h.cell
  have HT := Lib.hid h
  have hbw : b < w.heap.size := h.mp.lt
  clear h
  go_enter Try.func10, Try.ntmps10
  go_wp2_with (first
    | (at_range; refine wp_range _ rfl _ rfl rfl HT.out.mp ?_; intro w0 hr0 hb0 hs0)
    | go_in)
  go_frame
  go_loopw [5] (fun u wr => ∃ v A T, v = u ∧ Ps wr (w.heap.size + 1) v ((ofW A K).map plc) ∧ Wk w wr b w.heap.size L A T) (fun _ wr => wr.rangeLeft b w.heap.size)
  case atStart => exact ⟨_, [], L, rfl, World.ownsRow_nil _ _ _ _, Wk.begin hr0.out HT.out.wf hb0.out⟩
  case round =>
    obtain ⟨v, A, T, rfl, hps, hk⟩ := hrel
    have HK := Lib.hid hk
    have HPs := Lib.hid hps
    have hln := HK.out.len HT.out.wf
    have hol := of_len A K
    clear hk hps
    go_wp2_with (first
      | (at_next; refine wp_next _ rfl _ rfl rfl HK.out.rg HT.out.wf HK.out.sub ?_ ?_)
      | go_in)
    · intro h0
      have hperm := HK.out.done h0.out
      have hp2 : ((ofW A K).map plc).Perm ((ofW L K).map plc) := (hperm.filter _).map plc
      have hor : (ofW L K).Pairwise ltR := HT.out.wf.ord.sublist List.filter_sublist
      have HS := Lib.hid (sort_own HPs.out hp2 hor (by rw [List.length_map]; omega))
      have HL := Lib.hid HPs.out.lt
      have HB := Lib.hid HK.out.bel
      clear hperm hp2 hor
      go_wp2_with fail
      refine HS.out.mono ?_
      rintro e w2 ⟨rfl, hp3, hg3⟩
      have HP3 := Lib.hid hp3
      have HG3 := Lib.hid hg3
      obtain ⟨A', c', rfl⟩ := own_form hp3
      clear hp3 hg3 HS
      go_wp2_with fail
      go_ret
      exact ⟨A', c', by simp, own_at HP3.out, HB.out.grown HG3.out HB.out.size (fun k e => by have := (HL.out k e).1; omega)⟩
    · intro x w1 hx hr1 hlt hg1 hs1 hen
      have hk1 := HK.out.step hx.out hr1.out hg1.out (Nat.le_refl _)
      have HK1 := Lib.hid hk1
      have hnb : ∀ j, v.ownBlock = some j → w.heap.size + 1 ≤ j := fun j hj => (HPs.out.lt j hj).1
      have HP1 : Hid (Ps w1 (w.heap.size + 1) v ((ofW A K).map plc)) := HPs.out.kept hg1.out (by
        cases hv : v.ownBlock with
        | none => exact .inl rfl
        | some j => right; intro e; have := hnb j hv; cases e; omega)
      have hsn := Lib.hid (of_snoc A x K)
      have hsz := hk1.bel.size
      have hrl := hk1.rg.lt
      clear hr1 hg1 hs1 hk1
      obtain ⟨p, s, k, z⟩ := x
      obtain ⟨w2, hw2⟩ : ∃ w2, (w1.alloc (.cells #[.int .i64 p, .int .i64 s] 24)).alloc (.cells #[.int .i64 k, .int .i64 z] 26) = w2 := ⟨_, rfl⟩
      have b2 : Below w1.heap.size w1 w2 := by rw [← hw2]; exact up_alloc (up_alloc (Below.refl _ _) _) _
      have x1 : Blk w2 w1.heap.size [.int .i64 p, .int .i64 s] 24 := by rw [← hw2]; exact (Blk.new w1 [.int .i64 p, .int .i64 s] 24).below (up_alloc (Below.refl _ _) _)
      have x2 : Blk w2 (w1.heap.size + 1) [.int .i64 k, .int .i64 z] 26 := by rw [← hw2]; have := Blk.new (w1.alloc (.cells #[.int .i64 p, .int .i64 s] 24)) [.int .i64 k, .int .i64 z] 26; rwa [World.size_alloc] at this
      have d0 : w2.cell? ⟨w1.heap.size, 0, none⟩ = some (.int .i64 p) := x1.cell
      have d1 : w2.cell? ⟨w1.heap.size, 1, none⟩ = some (.int .i64 s) := x1.cell
      have d2 : w2.cell? ⟨w1.heap.size + 1, 0, none⟩ = some (.int .i64 k) := x2.cell
      have HK2 := Lib.hid (HK1.out.below b2)
      have HP2 := Lib.hid (own_below HP1.out b2)
      have hsz2 := b2.size
      clear x1 x2 b2
      cases e1 : (k == K) with
      | false =>
        have hsn2 : Hid (ofW (A ++ [⟨p, s, k, z⟩]) K = ofW A K) := by show _ = _; rw [hsn.out]; simp [e1]
        clear hsn
        go_wp2_with fail
        go_roundw
        case rel => exact ⟨_, A ++ [⟨p, s, k, z⟩], _, rfl, by rw [hsn2.out]; exact HP2.out, HK2.out.1⟩
        case measure => rw [HK2.out.2]; exact hlt.out
      | true =>
        have hsn2 : Hid ((ofW (A ++ [⟨p, s, k, z⟩]) K).map plc = (ofW A K).map plc ++ [(p, s)]) := by show _ = _; rw [hsn.out]; simp [e1, plc]
        have hll : ((ofW A K).map plc).length ≤ 524288 := by rw [List.length_map]; omega
        clear hsn
        go_wp2_with (first
          | (at_builtin; refine app_law el24 rfl _ _ rfl rfl (HP2.out.alloc _) rfl (Blk.new w2 [.int .i64 p, .int .i64 s] 24) rfl (by simp [Value.oneCell']) (by omega) (by rw [World.size_alloc]; omega) ?_; intro g' cap' w3 ho3 hg3 _)
          | go_in)
        clear hw2
        have hg3' := hg3.out
        have hkb := HK2.out.1.below (up_alloc (Below.refl _ w2) (.cells #[.int .i64 p, .int .i64 s] 24))
        have hk3 := hkb.1.grown hg3' (fun j hj => by have := hnb j hj; omega)
        have HK3 := Lib.hid hk3
        have HL3 : Hid (w3.rangeLeft b w.heap.size = w2.rangeLeft b w.heap.size) := hk3.2.trans hkb.2
        have ho3' : Hid (Ps w3 (w.heap.size + 1) (.slice (some ⟨g', 0, none⟩) (((ofW A K).map plc).length + 1) cap') ((ofW (A ++ [⟨p, s, k, z⟩]) K).map plc)) := by
          have := ho3.out
          show World.ownsRow _ _ _ _ _ _ _
          rw [hsn2.out, flat_snoc, List.length_append]
          exact this
        clear hg3' hkb hk3 ho3 hg3
        go_wp2_with fail
        go_roundw
        case rel => exact ⟨_, A ++ [⟨p, s, k, z⟩], _, rfl, by simpa only [List.length_map] using ho3'.out, HK3.out.1⟩
        case measure => rw [HL3.out, HK2.out.2]; exact hlt.out
end Go.Proofs.Ytbgacchbldgaeaa
