/-
  What a heap is in memory: laws that the claimed proofs use.
-/
import Derived.Test.YtckcgaliphpgeaaGreatDoorHeB
namespace Go.Proofs.YtckcgaliphpgeaaGreatDoor.He
set_option maxRecDepth 100000
open Go.RowKit
open Ta (sizeOf' classB)
open Bi (Drawn ret_i ret_b up_alloc up_drew up_trans)
open Ri (of of_nat up up_at up_far)
open Gr (kind kind_of kne)

/-- Where a slab lies: its struct, its bits' struct, the bits' words. -/
structure Ad where
  s : Nat
  q : Nat
  g : Nat
structure Pl where
  h : Nat
  q : Nat
  p : Gr.Pl
  b : Nat
  r : Ri.Pl
  A : Nat → Ad
theorem kind_os {w : World} {k : Nat} : Os.kind w k = kind w k := rfl
/-- The blocks of a ring. -/
theorem ring_kind {w : World} {r : Ri.Pl} {R : Nat → List Nat} (h : Ri.Ring w r R) {k : Nat} (h1 : r.lo ≤ k) (h2 : k < r.hi) : kind w k = 181 ∨ kind w k = 3 := by
  obtain ⟨inn, cs, nx, pv, hm, _⟩ := h
  obtain ⟨vs, hq⟩ := hm.kq
  obtain ⟨v0, k0, _⟩ := hm.r0
  obtain ⟨v1, k1, _⟩ := hm.r1
  obtain ⟨v2, k2, _⟩ := hm.r2
  obtain ⟨v3, k3, _⟩ := hm.r3
  rcases hm.ok.full k h1 h2 with rfl | rfl | rfl | rfl | rfl
  · exact .inl (kind_of hq)
  · exact .inr (kind_of k0)
  · exact .inr (kind_of k1)
  · exact .inr (kind_of k2)
  · exact .inr (kind_of k3)
theorem ring_out {w : World} {r : Ri.Pl} {R : Nat → List Nat} (h : Ri.Ring w r R) {k t : Nat} (hk : kind w k = t) (ht : t ≠ 181 ∧ t ≠ 3) : k < r.lo ∨ r.hi ≤ k := by
  by_cases h1 : r.lo ≤ k
  · by_cases h2 : k < r.hi
    · rcases ring_kind h h1 h2 with e | e <;> omega
    · omega
  · omega
theorem ring_lt {w : World} {r : Ri.Pl} {R : Nat → List Nat} (h : Ri.Ring w r R) {k : Nat} (h2 : k < r.hi) : k < w.heap.size := Nat.lt_of_lt_of_le h2 h.sz
theorem ring_of {w w' : World} {r : Ri.Pl} {R : Nat → List Nat} (h : Ri.Ring w r R) (hs : w.heap.size ≤ w'.heap.size) (hb : ∀ k, r.lo ≤ k → k < r.hi → w'.heap[k]? = w.heap[k]?) : Ri.Ring w' r R := by
  obtain ⟨inn, cs, nx, pv, hm, hf⟩ := h
  exact ⟨inn, cs, nx, pv, hm.of hs hb, hf⟩
/-- What the heap's map has. -/
def mapOf (U : Nat → Option Sb) (O : List Nat) (A : Nat → Ad) : Nat → Option Nat := fun p => (M U O p).map fun _ => (A p).s
structure Hm (w : World) (P : Pl) (σ : St) (bs : List (BitVec 8)) : Prop where
  blk : Bi.Blk w P.h [.pointer (some ⟨P.q, 0, none⟩), .map (some P.b), .pointer (some ⟨P.r.q, 0, none⟩)] 82
  gm : Gr.Gm w P.q P.p σ.N σ.L σ.f σ.t σ.S bs
  ring : Ri.Ring w P.r σ.R
  rn : P.r.n = σ.N
  rm : P.r.m = 64
  mp : Mp w P.b σ.N (mapOf σ.U σ.O P.A)
  sl : ∀ p s, σ.U p = some s → Os.Sl w (P.A p).s (P.A p).q (P.A p).g (256 * p) s.c s.l
  aps : ∀ p p' s s', σ.U p = some s → σ.U p' = some s' → p ≠ p' → (P.A p).s ≠ (P.A p').s ∧ (P.A p).g ≠ (P.A p').g
  bne : P.b ≠ P.p.bl
  tb : Os.Tb w
  lo : ∀ k, P.r.lo ≤ k → 1 < k
  ob : ∀ k, Gr.Own P.p k → 1 < k
  b1 : 1 < P.b
/-- The blocks that a call of a heap may change. -/
def Own (P : Pl) (U : Nat → Option Sb) (k : Nat) : Prop := Gr.Own P.p k ∨ k = P.b ∨ (P.r.lo ≤ k ∧ k < P.r.hi) ∨ ∃ p s, U p = some s ∧ (k = (P.A p).s ∨ k = (P.A p).g)
structure Fh (P : Pl) (U : Nat → Option Sb) (w w' : World) : Prop where
  os : w'.os = w.os
  tape : w'.tape = w.tape
  output : w'.output = w.output
  size : w.heap.size ≤ w'.heap.size
  block : ∀ k, k < w.heap.size → ¬ Own P U k → w'.heap[k]? = w.heap[k]?
def Nw (B : Nat) (P : Pl) (U : Nat → Option Sb) (P' : Pl) (U' : Nat → Option Sb) : Prop := ∀ k, Own P' U' k → Own P U k ∨ B ≤ k
theorem Nw.refl (B : Nat) (P : Pl) (U : Nat → Option Sb) : Nw B P U P U := fun _ h => .inl h
theorem Nw.trans {B B' : Nat} {P P' P'' : Pl} {U U' U'' : Nat → Option Sb} (h : Nw B P U P' U') (k : Nw B' P' U' P'' U'') (hB : B ≤ B') : Nw B P U P'' U'' := fun x hx => by
  rcases k x hx with h1 | h1
  · exact h x h1
  · exact .inr (by omega)
theorem Fh.refl (P : Pl) (U : Nat → Option Sb) (w : World) : Fh P U w w := ⟨rfl, rfl, rfl, Nat.le_refl _, fun _ _ _ => rfl⟩
theorem Fh.of {P : Pl} {U : Nat → Option Sb} {a b : World} (h : Below a.heap.size a b) : Fh P U a b := ⟨h.os, h.tape, h.output, h.size, fun k hk _ => h.block k hk⟩
theorem Fh.trans {P P' : Pl} {U U' : Nat → Option Sb} {a b c : World} (h : Fh P U a b) (k : Fh P' U' b c) (hn : Nw a.heap.size P U P' U') : Fh P U a c :=
  ⟨k.os.trans h.os, k.tape.trans h.tape, k.output.trans h.output, Nat.le_trans h.size k.size, fun i hi h1 => (k.block i (Nat.lt_of_lt_of_le hi h.size) (fun ho => by
    rcases hn i ho with e | e
    · exact h1 e
    · omega)).trans (h.block i hi h1)⟩
theorem Fh.below {P : Pl} {U : Nat → Option Sb} {B : Nat} {a b : World} (h : Fh P U a b) (h1 : ∀ k, Own P U k → B ≤ k) (hB : B ≤ a.heap.size) : Below B a b :=
  ⟨h.os, h.tape, h.output, h.size, fun k hk => h.block k (by omega) (fun ho => by have := h1 k ho; omega)⟩
section
variable {w w' : World} {P : Pl} {σ : St} {bs : List (BitVec 8)}
theorem Hm.cells (h : Hm w P σ bs) : w.cell? ⟨P.h, 0, none⟩ = some (.pointer (some ⟨P.q, 0, none⟩)) ∧ w.cell? ⟨P.h, 1, none⟩ = some (.map (some P.b)) ∧ w.cell? ⟨P.h, 2, none⟩ = some (.pointer (some ⟨P.r.q, 0, none⟩)) :=
  ⟨h.blk.cell, h.blk.cell, h.blk.cell⟩
theorem Hm.hN (h : Hm w P σ bs) : σ.N ≤ 4096 := by have := h.gm.inv.n1; omega
theorem tb_of {w w' : World} (h : Os.Tb w) (h0 : w'.heap[0]? = w.heap[0]?) (h1 : w'.heap[1]? = w.heap[1]?) : Os.Tb w' := by
  refine ⟨fun j hj => ?_, ?_⟩
  · have := h.bits j hj
    rw [← this]
    exact Bi.cell_of_block h1
  · obtain ⟨t, fr, e⟩ := h.cls
    exact ⟨t, fr, h0.trans e⟩
theorem Hm.kinds (h : Hm w P σ bs) : kind w P.h = 82 ∧ kind w P.q = 92 ∧ kind w P.b = 0 ∧ kind w P.p.qc = 173 ∧ kind w P.p.gc = 5 := by
  obtain ⟨k0, _, _, _, _, _, _, k7, k8⟩ := h.gm.gx.kinds
  exact ⟨kind_of h.blk, k0, h.mp.kind, k7, k8⟩
theorem Hm.slk (h : Hm w P σ bs) {p : Nat} {s : Sb} (hp : σ.U p = some s) : kind w (P.A p).s = 96 ∧ kind w (P.A p).q = 149 ∧ kind w (P.A p).g = 144 := (h.sl p s hp).kinds
theorem Hm.sll (h : Hm w P σ bs) {p : Nat} {s : Sb} (hp : σ.U p = some s) : (P.A p).s < w.heap.size ∧ (P.A p).q < w.heap.size ∧ (P.A p).g < w.heap.size := (h.sl p s hp).lt
/-- The ground's own blocks are none of these kinds. -/
theorem Hm.gno (h : Hm w P σ bs) {k t : Nat} (hk : kind w k = t) (ht : t ≠ 165 ∧ t ≠ 108 ∧ t ≠ 171 ∧ t ≠ 212 ∧ t ≠ 156 ∧ t ≠ 0) : ¬ Gr.Own P.p k := h.gm.gx.other hk ht
theorem Hm.gbn (h : Hm w P σ bs) : ¬ Gr.Own P.p P.b := fun ho => by
  obtain ⟨_, k1, k2, k3, k4, k5, k6, _, _⟩ := h.gm.gx.kinds
  have kb := h.kinds.2.2.1
  rcases ho with e | e | e | ⟨i, hi, e⟩ | e | e
  · rw [e, k1] at kb; cases kb
  · rw [e, k2] at kb; cases kb
  · rw [e, k3] at kb; cases kb
  · rw [k4 i _ hi e] at kb; cases kb
  · rw [e, k5] at kb; cases kb
  · exact h.bne e
theorem Hm.rno (h : Hm w P σ bs) {k t : Nat} (hk : kind w k = t) (ht : t ≠ 181 ∧ t ≠ 3) : k < P.r.lo ∨ P.r.hi ≤ k := ring_out h.ring hk ht
theorem Hm.gro (h : Hm w P σ bs) {k : Nat} (ho : Gr.Own P.p k) : k < P.r.lo ∨ P.r.hi ≤ k := by
  have := (h.gm.gx.own ho).2
  rcases this with e | e | e | e | e | e <;> exact h.rno e (by decide)
/-- Blocks that stay are read as before. -/
theorem Hm.of (h : Hm w P σ bs) (hs : w.heap.size ≤ w'.heap.size) (hb : ∀ k, k < w.heap.size → w'.heap[k]? = w.heap[k]?) : Hm w' P σ bs :=
  ⟨h.blk.of (hb _ h.blk.lt), ⟨h.gm.gx.of (fun k hk _ => hb k hk), h.gm.inv, h.gm.len⟩, ring_of h.ring hs (fun k _ hk => hb k (ring_lt h.ring hk)), h.rn, h.rm, h.mp.of (hb _ h.mp.lt),
    fun p s hp => (h.sl p s hp).of (hb _ (h.sl p s hp).lt.1) (hb _ (h.sl p s hp).lt.2.1) (hb _ (h.sl p s hp).lt.2.2), h.aps, h.bne, tb_of h.tb (hb 0 (by have := h.tb.lt; omega)) (hb 1 h.tb.lt), h.lo, h.ob, h.b1⟩
theorem Hm.below (h : Hm w P σ bs) (hb : Below w.heap.size w w') : Hm w' P σ bs := h.of hb.size hb.block
/-- The ground has changed. -/
theorem Hm.ground (h : Hm w P σ bs) {o : Gr.Out} (hb : Gr.Bec P.q P.p σ.N bs o w w') : ∃ p', Hm w' { P with p := p' } (setG σ o) bs ∧ Fh P σ.U w w' ∧ Nw w.heap.size P σ.U { P with p := p' } σ.U := by
  obtain ⟨g, m, h1, h2, h3⟩ := hb
  obtain ⟨a1, a2, a3, a4, a5⟩ := h.kinds
  have keep : ∀ k t, kind w k = t → t ≠ 165 ∧ t ≠ 108 ∧ t ≠ 171 ∧ t ≠ 212 ∧ t ≠ 156 ∧ t ≠ 0 → k < w.heap.size → w'.heap[k]? = w.heap[k]? := fun k t hk ht hl => h2.block k hl (h.gno hk ht)
  have hbl : w'.heap[P.b]? = w.heap[P.b]? := h2.block _ h.mp.lt h.gbn
  refine ⟨P.p.put g m, ⟨h.blk.of (keep _ _ a1 (by decide) h.blk.lt), h1, ring_of h.ring h2.size (fun k k1 k2 => ?_), h.rn, h.rm, h.mp.of hbl, fun p s hp => ?_, h.aps, h.bne, tb_of h.tb (h2.block 0 (by have := h.tb.lt; omega) (fun ho => by have := h.ob 0 ho; omega)) (h2.block 1 h.tb.lt (fun ho => by have := h.ob 1 ho; omega)), h.lo, fun k hk => ?_, h.b1⟩, ?_, fun k hk => ?_⟩
  · refine h2.block k (ring_lt h.ring k2) (fun ho => ?_)
    have := h.gro ho
    have k1' : P.r.lo ≤ k := k1
    have k2' : k < P.r.hi := k2
    omega
  · obtain ⟨l1, l2, l3⟩ := h.sll hp
    obtain ⟨c1, c2, c3⟩ := h.slk hp
    exact (h.sl p s hp).of (keep _ _ c1 (by decide) l1) (keep _ _ c2 (by decide) l2) (keep _ _ c3 (by decide) l3)
  · rcases h3 k hk with e | e
    · exact h.ob k e
    · have := h.tb.lt; omega
  · exact ⟨h2.os, h2.tape, h2.output, h2.size, fun k hk ho => h2.block k hk (fun e => ho (.inl e))⟩
  · rcases hk with e | e
    · rcases h3 k e with e | e
      · exact .inl (.inl e)
      · exact .inr e
    · exact .inl (.inr e)
/-- Items have moved. -/
theorem Hm.rings (h : Hm w P σ bs) {R' : Nat → List Nat} (hr : Ri.Ring w' P.r R') (hc : Ri.Chg P.r.lo P.r.hi w w') : Hm w' P (setR σ R') bs ∧ Fh P σ.U w w' := by
  obtain ⟨a1, a2, a3, a4, a5⟩ := h.kinds
  have keep : ∀ k t, kind w k = t → t ≠ 181 ∧ t ≠ 3 → k < w.heap.size → w'.heap[k]? = w.heap[k]? := fun k t hk ht hl => hc.block k hl (h.rno hk ht)
  obtain ⟨b0, _, _, _, _, _, _, b7, b8⟩ := h.gm.gx.lt
  refine ⟨⟨h.blk.of (keep _ _ a1 (by decide) h.blk.lt), ⟨h.gm.gx.of (fun k hk ho => ?_), h.gm.inv, h.gm.len⟩, hr, h.rn, h.rm, h.mp.of (keep _ _ a3 (by decide) h.mp.lt), fun p s hp => ?_, h.aps, h.bne, tb_of h.tb (hc.block 0 (by have := h.tb.lt; omega) ?_) (hc.block 1 h.tb.lt ?_), h.lo, h.ob, h.b1⟩, ?_⟩
  · rcases ho with rfl | ho | rfl | rfl
    · exact keep _ _ a2 (by decide) hk
    · exact hc.block k hk (h.gro ho)
    · exact keep _ _ a4 (by decide) hk
    · exact keep _ _ a5 (by decide) hk
  · obtain ⟨l1, l2, l3⟩ := h.sll hp
    obtain ⟨c1, c2, c3⟩ := h.slk hp
    exact (h.sl p s hp).of (keep _ _ c1 (by decide) l1) (keep _ _ c2 (by decide) l2) (keep _ _ c3 (by decide) l3)
  · left
    by_cases e : P.r.lo ≤ 0
    · have := h.lo 0 e; omega
    · omega
  · left
    by_cases e : P.r.lo ≤ 1
    · have := h.lo 1 e; omega
    · omega
  · exact ⟨hc.os, hc.tape, hc.output, hc.size, fun k hk ho => hc.block k hk (by
      by_cases e : P.r.lo ≤ k
      · by_cases e2 : k < P.r.hi
        · exact absurd (.inr (.inr (.inl ⟨e, e2⟩))) ho
        · omega
      · omega)⟩
/-- The map has changed, and a slab may have gone. -/
theorem Hm.mapped (h : Hm w P σ bs) {U' : Nat → Option Sb} {O' : List Nat} (hm : Mp w' P.b σ.N (mapOf U' O' P.A)) (hg : w.grownBy w' (some P.b)) (hU : ∀ p s, U' p = some s → σ.U p = some s) : Hm w' P { σ with U := U', O := O' } bs ∧ Fh P σ.U w w' ∧ Nw w.heap.size P σ.U P U' := by
  obtain ⟨a1, a2, a3, a4, a5⟩ := h.kinds
  have keep : ∀ k t, kind w k = t → t ≠ 0 → k < w.heap.size → w'.heap[k]? = w.heap[k]? := fun k t hk ht hl => hg.block k hl (fun e => by
    have e : P.b = k := Option.some.inj e.symm ▸ rfl
    rw [← e, a3] at hk; exact ht hk.symm)
  refine ⟨⟨h.blk.of (keep _ _ a1 (by decide) h.blk.lt), ⟨h.gm.gx.of (fun k hk ho => ?_), h.gm.inv, h.gm.len⟩, ring_of h.ring hg.size (fun k k1 k2 => ?_), h.rn, h.rm, hm, fun p s hp => ?_, fun p p' s s' hp hp' hne => h.aps p p' s s' (hU p s hp) (hU p' s' hp') hne, h.bne, tb_of h.tb (hg.block 0 (by have := h.tb.lt; omega) ?_) (hg.block 1 h.tb.lt ?_), h.lo, h.ob, h.b1⟩, ?_, fun k hk => ?_⟩
  · rcases ho with rfl | ho | rfl | rfl
    · exact keep _ _ a2 (by decide) hk
    · exact hg.block k hk (fun e => h.gbn (by have e := Option.some.inj e; rw [← e]; exact ho))
    · exact keep _ _ a4 (by decide) hk
    · exact keep _ _ a5 (by decide) hk
  · rcases ring_kind h.ring k1 k2 with e | e
    · exact keep _ _ e (by decide) (ring_lt h.ring k2)
    · exact keep _ _ e (by decide) (ring_lt h.ring k2)
  · have hp := hU p s hp
    obtain ⟨l1, l2, l3⟩ := h.sll hp
    obtain ⟨c1, c2, c3⟩ := h.slk hp
    exact (h.sl p s hp).of (keep _ _ c1 (by decide) l1) (keep _ _ c2 (by decide) l2) (keep _ _ c3 (by decide) l3)
  · intro e; have e := Option.some.inj e; have := h.b1; omega
  · intro e; have e := Option.some.inj e; have := h.b1; omega
  · exact ⟨hg.os, hg.tape, hg.output, hg.size, fun k hk ho => hg.block k hk (fun e => ho (.inr (.inl (Option.some.inj e))))⟩
  · left
    rcases hk with e | e | e | ⟨p, s, hp, e⟩
    · exact .inl e
    · exact .inr (.inl e)
    · exact .inr (.inr (.inl e))
    · exact .inr (.inr (.inr ⟨p, s, hU p s hp, e⟩))
/-- A slab has changed. -/
theorem Hm.slab (h : Hm w P σ bs) {p : Nat} {s : Sb} {l' : List Bool} (hp : σ.U p = some s) (hb : Os.Bec (P.A p).s (P.A p).g (256 * p) s.c l' w w') :
    ∃ A', Hm w' { P with A := A' } (setU σ p (some ⟨s.c, l'⟩)) bs ∧ Fh P σ.U w w' ∧ Nw w.heap.size P σ.U { P with A := A' } (up σ.U p (some ⟨s.c, l'⟩)) ∧ (∀ x, (A' x).s = (P.A x).s) := by
  obtain ⟨q', g', h1, h2, h3⟩ := hb
  obtain ⟨a1, a2, a3, a4, a5⟩ := h.kinds
  obtain ⟨s1, s2, s3⟩ := h.slk hp
  obtain ⟨t1, t2, t3⟩ := h.sll hp
  have keep : ∀ k t, kind w k = t → t ≠ 96 ∧ t ≠ 144 → k < w.heap.size → w'.heap[k]? = w.heap[k]? := fun k t hk ht hl => h2.block k hl (kne hk s1 ht.1) (kne hk s3 ht.2)
  have hU : ∀ x s', up σ.U p (some ⟨s.c, l'⟩) x = some s' → (x = p ∧ s' = ⟨s.c, l'⟩) ∨ (x ≠ p ∧ σ.U x = some s') := fun x s' hx => by
    by_cases e : x = p
    · subst e; rw [up_at] at hx; cases hx; exact .inl ⟨rfl, rfl⟩
    · rw [up_far e] at hx; exact .inr ⟨e, hx⟩
  have far : ∀ x s', x ≠ p → σ.U x = some s' → Os.Sl w' (P.A x).s (P.A x).q (P.A x).g (256 * x) s'.c s'.l := fun x s' hx hs => by
    obtain ⟨l1, l2, l3⟩ := h.sll hs
    obtain ⟨c1, c2, c3⟩ := h.slk hs
    obtain ⟨n1, n2⟩ := h.aps x p s' s hs hp hx
    exact (h.sl x s' hs).of (h2.block _ l1 n1 (kne c1 s3 (by decide))) (h2.block _ l2 (kne c2 s1 (by decide)) (kne c2 s3 (by decide))) (h2.block _ l3 (kne c3 s1 (by decide)) n2)
  have hsz := h2.size
  refine ⟨up P.A p ⟨(P.A p).s, q', g'⟩, ⟨h.blk.of (keep _ _ a1 (by decide) h.blk.lt), ⟨h.gm.gx.of (fun k hk ho => ?_), h.gm.inv, h.gm.len⟩, ring_of h.ring h2.size (fun k k1 k2 => ?_), h.rn, h.rm, ?_, fun x s' hx => ?_, fun x y sx sy hx hy hne => ?_, h.bne, tb_of h.tb (h2.block 0 (by have := h.tb.lt; omega) ?_ ?_) (h2.block 1 h.tb.lt ?_ ?_), h.lo, h.ob, h.b1⟩, ?_, fun k hk => ?_, fun x => ?_⟩
  · rcases ho with rfl | ho | rfl | rfl
    · exact keep _ _ a2 (by decide) hk
    · have := (h.gm.gx.own ho).2
      rcases this with e | e | e | e | e | e <;> exact keep _ _ e (by decide) hk
    · exact keep _ _ a4 (by decide) hk
    · exact keep _ _ a5 (by decide) hk
  · rcases ring_kind h.ring k1 k2 with e | e
    · exact keep _ _ e (by decide) (ring_lt h.ring k2)
    · exact keep _ _ e (by decide) (ring_lt h.ring k2)
  · refine (h.mp.of (keep _ _ a3 (by decide) h.mp.lt)).same (fun x => ?_)
    show mapOf (up σ.U p (some ⟨s.c, l'⟩)) σ.O (up P.A p ⟨(P.A p).s, q', g'⟩) x = mapOf σ.U σ.O P.A x
    unfold mapOf
    by_cases e : x = p
    · subst e
      rw [up_at]
      by_cases ho : x ∈ σ.O
      · rw [M_in ho, M_in ho]
      · rw [M_off ho, M_off ho, up_at, hp]; rfl
    · rw [up_far e, M_same (U := σ.U) (O := σ.O) (up_far e) Iff.rfl]
  · dsimp only
    rcases hU x s' hx with ⟨rfl, rfl⟩ | ⟨e, hx⟩
    · rw [up_at]; exact h1
    · rw [up_far e]; exact far x s' e hx
  · dsimp only
    rcases hU x sx hx with ⟨rfl, rfl⟩ | ⟨e, hx'⟩ <;> rcases hU y sy hy with ⟨e1, e2⟩ | ⟨e1, hy'⟩
    · exact absurd e1.symm hne
    · rw [up_at, up_far e1]
      obtain ⟨n1, n2⟩ := h.aps x y s sy hp hy' hne
      have := (h.sll hy').2.2
      exact ⟨n1, by dsimp only; rcases h3 with e | e <;> omega⟩
    · subst e1
      rw [up_at, up_far e]
      obtain ⟨n1, n2⟩ := h.aps x y sx s hx' hp hne
      have := (h.sll hx').2.2
      exact ⟨n1, by dsimp only; rcases h3 with e | e <;> omega⟩
    · rw [up_far e, up_far e1]; exact h.aps x y sx sy hx' hy' hne
  · have := (h.sl p s hp).pos; omega
  · have := (h.sl p s hp).gpos; omega
  · have := (h.sl p s hp).pos; omega
  · have := (h.sl p s hp).gpos; omega
  · exact ⟨h2.os, h2.tape, h2.output, h2.size, fun k hk ho => h2.block k hk (fun e => ho (.inr (.inr (.inr ⟨p, s, hp, .inl e⟩)))) (fun e => ho (.inr (.inr (.inr ⟨p, s, hp, .inr e⟩))))⟩
  · rcases hk with e | e | e | ⟨x, s', hx, e⟩
    · exact .inl (.inl e)
    · exact .inl (.inr (.inl e))
    · exact .inl (.inr (.inr (.inl e)))
    · dsimp only at e
      rcases hU x s' hx with ⟨rfl, rfl⟩ | ⟨e1, hx⟩
      · rw [up_at] at e
        rcases e with e | e
        · exact .inl (.inr (.inr (.inr ⟨x, s, hp, .inl e⟩)))
        · rcases h3 with e3 | e3
          · exact .inl (.inr (.inr (.inr ⟨x, s, hp, .inr (e.trans e3)⟩)))
          · right; dsimp only at e; omega
      · rw [up_far e1] at e
        exact .inl (.inr (.inr (.inr ⟨x, s', hx, e⟩)))
  · by_cases e : x = p
    · subst e; rw [up_at]
    · rw [up_far e]
end
end Go.Proofs.YtckcgaliphpgeaaGreatDoor.He
