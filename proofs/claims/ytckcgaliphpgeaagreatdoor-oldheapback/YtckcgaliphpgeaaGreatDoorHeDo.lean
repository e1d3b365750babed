/-
  The statements' calls on a heap: contracts that the claimed proofs use.
-/
import Derived.Test.YtckcgaliphpgeaaGreatDoorHeBegin
namespace Go.Proofs.YtckcgaliphpgeaaGreatDoor.He
set_option maxRecDepth 100000
open Go.RowKit
open Ta (sizeOf' classB)
open Bi (Drawn ret_i ret_b up_alloc up_drew up_trans tst sets)
open Ri (of of_nat up up_at up_far lenOf)
open Gr (kind kind_of kne)

/-- A call: what, class, address, number, page. -/
structure Cl where
  x : Int
  c : Int
  a : Int
  n : Int
  p : Int
def clV (o : Cl) : Value := .agg #[.int .i64 o.x, .int .i64 o.c, .int .i64 o.a, .int .i64 o.n, .int .i64 o.p]
structure Cl.ok (o : Cl) : Prop where
  x : I64 o.x
  c : I64 o.c
  a : I64 o.a
  n : I64 o.n
  p : I64 o.p
/-- What a call answers, and leaves. -/
def Done (P : Pl) (σ : St) (bs : List (BitVec 8)) (w0 : World) (x : Nat) (σ' : St) (l : List Int) (E : Int) (w : World) (e : Ending) (w' : World) : Prop :=
  ∃ A cp P', e = .returned (.tuple #[.slice A l.length cp, .int .i64 E]) ∧ Os.At w'.heap.size w' A (Os.ints l) ∧ Wd w0 w' x P' σ' bs ∧ P'.h = P.h ∧ P'.q = P.q ∧ w.heap.size ≤ w'.heap.size ∧ Nw w.heap.size P σ.U P' σ'.U ∧
    (∀ k, k < w.heap.size → ¬ Own P σ.U k → k ≠ x → kind w k ≠ 41 → w'.heap[k]? = w.heap[k]?)
section
variable {w w' w0 : World} {x : Nat} {P : Pl} {σ : St} {bs : List (BitVec 8)}
theorem at_nil (N : Nat) (w : World) (A : Option Addr) : Os.At N w A (Os.ints []) := fun h => by simp [Os.ints] at h
theorem at_one (w : World) (v : Int) : Os.At (w.alloc (.cells #[.int .i64 v] 3)).heap.size (w.alloc (.cells #[.int .i64 v] 3)) (some ⟨w.heap.size, 0, none⟩) (Os.ints [v]) := fun _ =>
  ⟨w.heap.size, 0, rfl, by rw [World.size_alloc]; omega, fun j u hj => by
    have hk := Gr.Blk.new w [.int .i64 v] 3
    rw [Nat.zero_add]
    exact (Bi.Blk.cell hk).trans hj⟩
theorem kind_keep {a b : World} {k : Nat} (h : b.heap[k]? = a.heap[k]?) : kind b k = kind a k := by unfold kind; rw [h]
/-- Of a heap's call a statement's. -/
theorem Done.of {w1 w2 w3 : World} {σ' : St} {l : List Int} {E : Int} {A : Option Addr} {cp : Nat} (h : Wd w0 w x P σ bs) (hb : Below w.heap.size w w1) (hl : Left P σ bs σ' w1 w2) (hO : σ'.O = σ.O) (hi : HI σ') (hb3 : Below w2.heap.size w2 w3) (ha : Os.At w3.heap.size w3 A (Os.ints l)) :
    Done P σ bs w0 x σ' l E w (.returned (.tuple #[.slice A l.length cp, .int .i64 E])) w3 := by
  have hl2 := Left.after hb hl
  obtain ⟨P', h1, h2, h3, h4⟩ := h.left hl2 hO hi
  obtain ⟨P2, a1, a2, a3, a4, a5, a6⟩ := hl2
  obtain ⟨v, b1, b2⟩ := h.blk
  have hw2 : Wd w0 w2 x P2 σ' bs := by
    refine ⟨⟨v, ?_, ?_⟩, a4, hi, fun k hk => ?_, h.xnew, h.bel.trans (a5.below h.new h.bel.size)⟩
    · rw [a1, a2]
      exact b1.of (a5.block x b1.lt (fun ho => (h.hm.own_kind ho).1 (kind_of b1)))
    · have e : (σ'.O.map fun p => Value.pointer (some ⟨(P2.A p).s, 0, none⟩)) = σ.O.map fun p => Value.pointer (some ⟨(P.A p).s, 0, none⟩) := by
        rw [hO]
        exact List.map_congr_left (fun p hp => by rw [a3 p hp])
      rw [e, hO]
      exact Os.own_of b2 (fun j hj => a5.block j (ptr_row b2 hj).2.2 (fun ho => (h.hm.own_kind ho).2.1 (ptr_row b2 hj).1))
    · rcases a6 k hk with e | e
      · exact h.new k e
      · have := h.bel.size; omega
  refine ⟨A, cp, P2, rfl, ha, hw2.below hb3, a1, a2, Nat.le_trans a5.size hb3.size, a6, fun k hk hno _ _ => ?_⟩
  rw [hb3.block k (Nat.lt_of_lt_of_le hk a5.size)]
  exact a5.block k hk hno
set_option maxHeartbeats 2000000 in
theorem do0 (h : Wd w0 w x P σ bs) (o : Cl) (ho : o.ok) (hk : o.x = 0) (hS : σ.S.length ≤ 900000000000) : Calls Tryz.prog 10 #[.pointer (some ⟨x, 0, none⟩), clV o] w (Done P σ bs w0 x (takeO σ o.c).σ [(takeO σ o.c).v] (takeO σ o.c).e w) := by
  obtain ⟨ox, oc, oa, on, op⟩ := o
  dsimp only at hk ⊢
  subst hk
  obtain ⟨hx1, hc1, ha1, hn1, hp1⟩ := ho
  dsimp only at hx1 hc1 ha1 hn1 hp1
  obtain ⟨w1, hw1⟩ : ∃ w1, w.alloc (.cells #[.int .i64 0, .int .i64 oc, .int .i64 oa, .int .i64 on, .int .i64 op] 34) = w1 := ⟨_, rfl⟩
  have b1 : Below w.heap.size w w1 := by rw [← hw1]; exact up_alloc (Below.refl _ _) _
  have k1 : Bi.Blk w1 w.heap.size [.int .i64 0, .int .i64 oc, .int .i64 oa, .int .i64 on, .int .i64 op] 34 := by rw [← hw1]; exact Gr.Blk.new w _ 34
  have s0 : w1.cell? ⟨w.heap.size, 0, none⟩ = some (.int .i64 0) := k1.cell
  have s1 : w1.cell? ⟨w.heap.size, 1, none⟩ = some (.int .i64 oc) := k1.cell
  have s2 : w1.cell? ⟨w.heap.size, 2, none⟩ = some (.int .i64 oa) := k1.cell
  have s3 : w1.cell? ⟨w.heap.size, 3, none⟩ = some (.int .i64 on) := k1.cell
  have s4 : w1.cell? ⟨w.heap.size, 4, none⟩ = some (.int .i64 op) := k1.cell
  have hh := h.below b1
  have q0 := hh.cells.1
  have q1 := hh.cells.2
  have HH := Lib.hid h
  have B1 := Lib.hid b1
  have HD := Lib.hid ((up_drew b1 1 : Below w.heap.size w (w1.drewN 1)))
  have kx : ∀ W, Left P σ bs (takeO σ oc).σ (w1.drewN 1) W → W.cell? ⟨x, 1, none⟩ = some (.pointer (some ⟨P.h, 0, none⟩)) ∧ W.cell? ⟨w.heap.size, 1, none⟩ = some (.int .i64 oc) := fun W hl => by
    obtain ⟨P', e1, e2, hw', hf⟩ := (h.below (up_drew b1 1)).left hl (take_N σ oc).2 (take_keep h.hi oc)
    have k2 : Bi.Blk (w1.drewN 1) w.heap.size [.int .i64 0, .int .i64 oc, .int .i64 oa, .int .i64 on, .int .i64 op] 34 := k1.below (up_drew (Below.refl _ w1) 1)
    have hbk := hf.block _ k2.lt (fun ho => ((h.below (up_drew b1 1)).hm.own_kind ho).2.2.2.1 (kind_of k2))
    exact ⟨by rw [hw'.cells.2, e1], (k2.of hbk).cell⟩
  have HC := Lib.hid (take_any (h.hm.below (up_drew b1 1)) h.hi oc (by omega))
  have HK := Lib.hid (And.intro (take_keep h.hi oc) (take_N σ oc).2)
  obtain ⟨v, hv⟩ : ∃ v, (takeO σ oc).v = v := ⟨_, rfl⟩
  obtain ⟨E, hE⟩ : ∃ E, (takeO σ oc).e = E := ⟨_, rfl⟩
  rw [hv, hE]
  rw [hv, hE] at HC
  clear h hh b1 k1 hS hv hE
  unfold clV
  go_enter Tryz.func10, Tryz.ntmps10
  go_wp2_with fail
  clear hw1
  have hS2 : (w1.drewN 1).cell? ⟨x, 1, none⟩ = some (.pointer (some ⟨P.h, 0, none⟩)) ∧ (w1.drewN 1).cell? ⟨w.heap.size, 1, none⟩ = some (.int .i64 oc) := ⟨q1, s1⟩
  have KX := Lib.hid kx
  clear s0 s1 s2 s3 s4 q0 q1 kx
  go_region_held3 (fun w' => w'.cell? ⟨x, 1, none⟩ = some (.pointer (some ⟨P.h, 0, none⟩)) ∧ w'.cell? ⟨w.heap.size, 1, none⟩ = some (.int .i64 oc))
    (first | exact S3 | exact hS2)
    ((go_at_call 29; refine HC.out.mono ?_; rintro e w2 ⟨rfl, hl⟩; have S3 := KX.out w2 hl; have HL2 := Lib.hid hl; clear hl))
  have FIN := Lib.hid (Done.of (E := E) (l := [v]) (cp := 1) HH.out HD.out HL2.out HK.out.2 HK.out.1 (up_alloc (Below.refl _ w2) (.cells #[.int .i64 v] 3)) (at_one w2 v))
  clear HC S3
  go_wp2_with fail
  go_ret2
  exact FIN.out
set_option maxHeartbeats 2000000 in
theorem do1 (h : Wd w0 w x P σ bs) (o : Cl) (ho : o.ok) (hk : o.x = 1) (hS : σ.S.length ≤ 900000000000) : Calls Tryz.prog 10 #[.pointer (some ⟨x, 0, none⟩), clV o] w (Done P σ bs w0 x (giveO σ o.a).σ [] (giveO σ o.a).e w) := by
  obtain ⟨ox, oc, oa, on, op⟩ := o
  dsimp only at hk ⊢
  subst hk
  obtain ⟨hx1, hc1, ha1, hn1, hp1⟩ := ho
  dsimp only at hx1 hc1 ha1 hn1 hp1
  obtain ⟨w1, hw1⟩ : ∃ w1, w.alloc (.cells #[.int .i64 1, .int .i64 oc, .int .i64 oa, .int .i64 on, .int .i64 op] 34) = w1 := ⟨_, rfl⟩
  have b1 : Below w.heap.size w w1 := by rw [← hw1]; exact up_alloc (Below.refl _ _) _
  have k1 : Bi.Blk w1 w.heap.size [.int .i64 1, .int .i64 oc, .int .i64 oa, .int .i64 on, .int .i64 op] 34 := by rw [← hw1]; exact Gr.Blk.new w _ 34
  have s0 : w1.cell? ⟨w.heap.size, 0, none⟩ = some (.int .i64 1) := k1.cell
  have s1 : w1.cell? ⟨w.heap.size, 1, none⟩ = some (.int .i64 oc) := k1.cell
  have s2 : w1.cell? ⟨w.heap.size, 2, none⟩ = some (.int .i64 oa) := k1.cell
  have s3 : w1.cell? ⟨w.heap.size, 3, none⟩ = some (.int .i64 on) := k1.cell
  have s4 : w1.cell? ⟨w.heap.size, 4, none⟩ = some (.int .i64 op) := k1.cell
  have hh := h.below b1
  have q0 := hh.cells.1
  have q1 := hh.cells.2
  have HH := Lib.hid h
  have B1 := Lib.hid b1
  have HD := Lib.hid ((up_drew b1 1 : Below w.heap.size w (w1.drewN 1)))
  have HC := Lib.hid (give_any (h.hm.below (up_drew b1 1)) h.hi oa ha1 (by omega))
  have HK := Lib.hid (And.intro (give_keep h.hi oa) (give_N σ oa).2)
  obtain ⟨E, hE⟩ : ∃ E, (giveO σ oa).e = E := ⟨_, rfl⟩
  rw [hE]
  rw [hE] at HC
  clear h hh b1 k1 hS hE
  unfold clV
  go_enter Tryz.func10, Tryz.ntmps10
  go_wp2_with fail
  clear hw1
  refine wp_region_still_tail 6 (by kernel_rfl) (by kernel_rfl) ?_
  simp only [List.take_succ_cons, List.take_zero, List.drop_succ_cons, List.drop_zero]
  iterate 6 still_step
  refine wpStill_nil ?_
  change wpList _ _ _ _ _ (w1.drewN 1)
  clear s0 s1 s2 s3 s4 q0 q1
  go_wp2_with fail
  refine HC.out.mono ?_
  rintro e w2 ⟨rfl, hl⟩
  have FIN := Lib.hid (Done.of (E := E) (l := []) (A := none) (cp := 0) HH.out HD.out hl HK.out.2 HK.out.1 (Below.refl _ w2) (at_nil _ _ _))
  clear hl HC
  go_wp2_with fail
  go_ret2
  exact FIN.out
set_option maxHeartbeats 2000000 in
theorem do2 (h : Wd w0 w x P σ bs) (o : Cl) (ho : o.ok) (hk : o.x = 2) (hS : σ.S.length ≤ 900000000000) : Calls Tryz.prog 10 #[.pointer (some ⟨x, 0, none⟩), clV o] w (Done P σ bs w0 x (someO σ o.c o.n).σ (someO σ o.c o.n).l (someO σ o.c o.n).e w) := by
  obtain ⟨ox, oc, oa, on, op⟩ := o
  dsimp only at hk ⊢
  subst hk
  obtain ⟨hx1, hc1, ha1, hn1, hp1⟩ := ho
  dsimp only at hx1 hc1 ha1 hn1 hp1
  obtain ⟨w1, hw1⟩ : ∃ w1, w.alloc (.cells #[.int .i64 2, .int .i64 oc, .int .i64 oa, .int .i64 on, .int .i64 op] 34) = w1 := ⟨_, rfl⟩
  have b1 : Below w.heap.size w w1 := by rw [← hw1]; exact up_alloc (Below.refl _ _) _
  have k1 : Bi.Blk w1 w.heap.size [.int .i64 2, .int .i64 oc, .int .i64 oa, .int .i64 on, .int .i64 op] 34 := by rw [← hw1]; exact Gr.Blk.new w _ 34
  have s0 : w1.cell? ⟨w.heap.size, 0, none⟩ = some (.int .i64 2) := k1.cell
  have s1 : w1.cell? ⟨w.heap.size, 1, none⟩ = some (.int .i64 oc) := k1.cell
  have s2 : w1.cell? ⟨w.heap.size, 2, none⟩ = some (.int .i64 oa) := k1.cell
  have s3 : w1.cell? ⟨w.heap.size, 3, none⟩ = some (.int .i64 on) := k1.cell
  have s4 : w1.cell? ⟨w.heap.size, 4, none⟩ = some (.int .i64 op) := k1.cell
  have hh := h.below b1
  have q0 := hh.cells.1
  have q1 := hh.cells.2
  have HH := Lib.hid h
  have B1 := Lib.hid b1
  have HD := Lib.hid ((up_drew b1 1 : Below w.heap.size w (w1.drewN 1)))
  have kx : ∀ W, Left P σ bs (someO σ oc on).σ (w1.drewN 1) W → W.cell? ⟨x, 1, none⟩ = some (.pointer (some ⟨P.h, 0, none⟩)) ∧ W.cell? ⟨w.heap.size, 1, none⟩ = some (.int .i64 oc) ∧ W.cell? ⟨w.heap.size, 3, none⟩ = some (.int .i64 on) := fun W hl => by
    obtain ⟨P', e1, e2, hw', hf⟩ := (h.below (up_drew b1 1)).left hl (some_keep h.hi oc on).2.2.1 (some_keep h.hi oc on).1
    have k2 : Bi.Blk (w1.drewN 1) w.heap.size [.int .i64 2, .int .i64 oc, .int .i64 oa, .int .i64 on, .int .i64 op] 34 := k1.below (up_drew (Below.refl _ w1) 1)
    have hbk := hf.block _ k2.lt (fun ho => ((h.below (up_drew b1 1)).hm.own_kind ho).2.2.2.1 (kind_of k2))
    exact ⟨by rw [hw'.cells.2, e1], (k2.of hbk).cell, (k2.of hbk).cell⟩
  have HC := Lib.hid (some_any (h.hm.below (up_drew b1 1)) h.hi oc on hn1.2 hS)
  have HK := Lib.hid (And.intro (some_keep h.hi oc on).1 (some_keep h.hi oc on).2.2.1)
  obtain ⟨l, hl⟩ : ∃ l, (someO σ oc on).l = l := ⟨_, rfl⟩
  obtain ⟨E, hE⟩ : ∃ E, (someO σ oc on).e = E := ⟨_, rfl⟩
  rw [hl, hE]
  rw [hl, hE] at HC
  clear h hh b1 k1 hS hl hE
  unfold clV
  go_enter Tryz.func10, Tryz.ntmps10
  go_wp2_with fail
  clear hw1
  have hS2 : (w1.drewN 1).cell? ⟨x, 1, none⟩ = some (.pointer (some ⟨P.h, 0, none⟩)) ∧ (w1.drewN 1).cell? ⟨w.heap.size, 1, none⟩ = some (.int .i64 oc) ∧ (w1.drewN 1).cell? ⟨w.heap.size, 3, none⟩ = some (.int .i64 on) := ⟨q1, s1, s3⟩
  have KX := Lib.hid kx
  clear s0 s1 s2 s3 s4 q0 q1 kx
  go_region_held3 (fun w' => w'.cell? ⟨x, 1, none⟩ = some (.pointer (some ⟨P.h, 0, none⟩)) ∧ w'.cell? ⟨w.heap.size, 1, none⟩ = some (.int .i64 oc) ∧ w'.cell? ⟨w.heap.size, 3, none⟩ = some (.int .i64 on))
    (first | exact S3 | exact hS2)
    ((go_at_call 38; refine HC.out.mono ?_; rintro e w2 ⟨A, cp, rfl, ha, hl⟩; have S3 := KX.out w2 hl; have HL2 := Lib.hid hl; clear hl))
  have FIN := Lib.hid (Done.of (E := E) (cp := cp) HH.out HD.out HL2.out HK.out.2 HK.out.1 (Below.refl _ w2) ha)
  clear HC S3
  go_wp2_with fail
  go_ret2
  exact FIN.out
set_option maxHeartbeats 2000000 in
theorem do3 (h : Wd w0 w x P σ bs) (o : Cl) (ho : o.ok) (hk : o.x = 3) (hS : σ.S.length ≤ 900000000000) : Calls Tryz.prog 10 #[.pointer (some ⟨x, 0, none⟩), clV o] w (Done P σ bs w0 x (sealO σ o.p).σ [] (sealO σ o.p).e w) := by
  obtain ⟨ox, oc, oa, on, op⟩ := o
  dsimp only at hk ⊢
  subst hk
  obtain ⟨hx1, hc1, ha1, hn1, hp1⟩ := ho
  dsimp only at hx1 hc1 ha1 hn1 hp1
  obtain ⟨w1, hw1⟩ : ∃ w1, w.alloc (.cells #[.int .i64 3, .int .i64 oc, .int .i64 oa, .int .i64 on, .int .i64 op] 34) = w1 := ⟨_, rfl⟩
  have b1 : Below w.heap.size w w1 := by rw [← hw1]; exact up_alloc (Below.refl _ _) _
  have k1 : Bi.Blk w1 w.heap.size [.int .i64 3, .int .i64 oc, .int .i64 oa, .int .i64 on, .int .i64 op] 34 := by rw [← hw1]; exact Gr.Blk.new w _ 34
  have s0 : w1.cell? ⟨w.heap.size, 0, none⟩ = some (.int .i64 3) := k1.cell
  have s1 : w1.cell? ⟨w.heap.size, 1, none⟩ = some (.int .i64 oc) := k1.cell
  have s2 : w1.cell? ⟨w.heap.size, 2, none⟩ = some (.int .i64 oa) := k1.cell
  have s3 : w1.cell? ⟨w.heap.size, 3, none⟩ = some (.int .i64 on) := k1.cell
  have s4 : w1.cell? ⟨w.heap.size, 4, none⟩ = some (.int .i64 op) := k1.cell
  have hh := h.below b1
  have q0 := hh.cells.1
  have q1 := hh.cells.2
  have HH := Lib.hid h
  have B1 := Lib.hid b1
  have HD := Lib.hid ((up_drew b1 1 : Below w.heap.size w (w1.drewN 1)))
  have HC := Lib.hid (seal_any (h.hm.below (up_drew b1 1)) h.hi op hp1 (by omega))
  have HK := Lib.hid (And.intro (seal_keep h.hi op) (seal_N σ op).2)
  obtain ⟨E, hE⟩ : ∃ E, (sealO σ op).e = E := ⟨_, rfl⟩
  rw [hE]
  rw [hE] at HC
  clear h hh b1 k1 hS hE
  unfold clV
  go_enter Tryz.func10, Tryz.ntmps10
  go_wp2_with fail
  clear hw1
  refine wp_region_still_tail 6 (by kernel_rfl) (by kernel_rfl) ?_
  simp only [List.take_succ_cons, List.take_zero, List.drop_succ_cons, List.drop_zero]
  iterate 6 still_step
  refine wpStill_nil ?_
  change wpList _ _ _ _ _ (w1.drewN 1)
  clear s0 s1 s2 s3 s4 q0 q1
  go_wp2_with fail
  refine HC.out.mono ?_
  rintro e w2 ⟨rfl, hl⟩
  have FIN := Lib.hid (Done.of (E := E) (l := []) (A := none) (cp := 0) HH.out HD.out hl HK.out.2 HK.out.1 (Below.refl _ w2) (at_nil _ _ _))
  clear hl HC
  go_wp2_with fail
  go_ret2
  exact FIN.out
set_option maxHeartbeats 2000000 in
theorem do4 (h : Wd w0 w x P σ bs) (o : Cl) (ho : o.ok) (hk : o.x = 4) (hS : σ.S.length ≤ 900000000000) : Calls Tryz.prog 10 #[.pointer (some ⟨x, 0, none⟩), clV o] w (Done P σ bs w0 x (unsealO σ o.p).σ [] (unsealO σ o.p).e w) := by
  obtain ⟨ox, oc, oa, on, op⟩ := o
  dsimp only at hk ⊢
  subst hk
  obtain ⟨hx1, hc1, ha1, hn1, hp1⟩ := ho
  dsimp only at hx1 hc1 ha1 hn1 hp1
  obtain ⟨w1, hw1⟩ : ∃ w1, w.alloc (.cells #[.int .i64 4, .int .i64 oc, .int .i64 oa, .int .i64 on, .int .i64 op] 34) = w1 := ⟨_, rfl⟩
  have b1 : Below w.heap.size w w1 := by rw [← hw1]; exact up_alloc (Below.refl _ _) _
  have k1 : Bi.Blk w1 w.heap.size [.int .i64 4, .int .i64 oc, .int .i64 oa, .int .i64 on, .int .i64 op] 34 := by rw [← hw1]; exact Gr.Blk.new w _ 34
  have s0 : w1.cell? ⟨w.heap.size, 0, none⟩ = some (.int .i64 4) := k1.cell
  have s1 : w1.cell? ⟨w.heap.size, 1, none⟩ = some (.int .i64 oc) := k1.cell
  have s2 : w1.cell? ⟨w.heap.size, 2, none⟩ = some (.int .i64 oa) := k1.cell
  have s3 : w1.cell? ⟨w.heap.size, 3, none⟩ = some (.int .i64 on) := k1.cell
  have s4 : w1.cell? ⟨w.heap.size, 4, none⟩ = some (.int .i64 op) := k1.cell
  have hh := h.below b1
  have q0 := hh.cells.1
  have q1 := hh.cells.2
  have HH := Lib.hid h
  have B1 := Lib.hid b1
  have HD := Lib.hid ((up_drew b1 1 : Below w.heap.size w (w1.drewN 1)))
  have HC := Lib.hid (unseal_any (h.hm.below (up_drew b1 1)) h.hi op hp1 (by omega))
  have HK := Lib.hid (And.intro (unseal_keep h.hi op) (unseal_N σ op).2)
  obtain ⟨E, hE⟩ : ∃ E, (unsealO σ op).e = E := ⟨_, rfl⟩
  rw [hE]
  rw [hE] at HC
  clear h hh b1 k1 hS hE
  unfold clV
  go_enter Tryz.func10, Tryz.ntmps10
  go_wp2_with fail
  clear hw1
  refine wp_region_still_tail 6 (by kernel_rfl) (by kernel_rfl) ?_
  simp only [List.take_succ_cons, List.take_zero, List.drop_succ_cons, List.drop_zero]
  iterate 6 still_step
  refine wpStill_nil ?_
  change wpList _ _ _ _ _ (w1.drewN 1)
  clear s0 s1 s2 s3 s4 q0 q1
  go_wp2_with fail
  refine HC.out.mono ?_
  rintro e w2 ⟨rfl, hl⟩
  have FIN := Lib.hid (Done.of (E := E) (l := []) (A := none) (cp := 0) HH.out HD.out hl HK.out.2 HK.out.1 (Below.refl _ w2) (at_nil _ _ _))
  clear hl HC
  go_wp2_with fail
  go_ret2
  exact FIN.out
end
end Go.Proofs.YtckcgaliphpgeaaGreatDoor.He
