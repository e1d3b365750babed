/-
  A ground and its clone.
-/
import Derived.Test.YtjnknnakllbaaaaGreatGrCalls
import Derived.Test.YtjnknnakllbaaaaGreatGrClone
namespace Go.Proofs.YtjnknnakllbaaaaGreat.Gr
set_option maxRecDepth 100000
open Go.RowKit
/-- A ground that shares nothing with another one. -/
structure Tw (V : World) (p : Pl) (q2 : Nat) (p2 : Pl) (N : Int) (L : List Sp.Rn) (f : Ra.Ws) (t : Int) (S : List Le.Row) (bs : List (BitVec 8)) : Prop where
  gm : Gm V q2 p2 N L f t S bs
  dis : ∀ k, (k = q2 ∨ Own p2 k ∨ k = p2.qc ∨ k = p2.gc) → ¬ Own p k
  ne : p2.gc ≠ p.gc
section
variable {V V' : World} {p : Pl} {q q2 : Nat} {p2 : Pl} {N N' : Int} {L L' : List Sp.Rn} {f f' : Ra.Ws} {t t' : Int} {S S' : List Le.Row} {bs bs' : List (BitVec 8)}
theorem Gx.lt2 (h : Gx V q2 p2 N L f t S bs) {k : Nat} (hk : k = q2 ∨ Own p2 k ∨ k = p2.qc ∨ k = p2.gc) : k < V.heap.size := by
  obtain ⟨a0, a1, a2, a3, a4, a5, a6, a7, a8⟩ := h.lt
  rcases hk with e | e | e | e
  · subst e; exact a0
  · exact (h.own e).1
  · subst e; exact a7
  · subst e; exact a8
theorem Tw.below (h : Tw V p q2 p2 N L f t S bs) (hb : Below V.heap.size V V') : Tw V' p q2 p2 N L f t S bs := ⟨h.gm.below hb, h.dis, h.ne⟩
theorem Tw.made {W : World} (h : Gm V q p N L f t S bs) (hq : V.heap.size ≤ q2) (hf : Fresh V.heap.size p2) (h2 : Gm W q2 p2 N L f t S bs) : Tw W p q2 p2 N L f t S bs := by
  refine ⟨h2, fun k hk ho => ?_, fun e => ?_⟩
  · have hl := (h.gx.own ho).1
    rcases hk with e | e | e | e
    · omega
    · have := hf.1 k e; omega
    · have := hf.2.1; omega
    · have := hf.2.2; omega
  · have := hf.2.2
    have := h.gx.lt.2.2.2.2.2.2.2.2
    omega
/-- The other one has changed. -/
theorem Tw.step (h : Tw V p q2 p2 N L f t S bs) {p' : Pl} (hf : Fe p V V') (hn : Nw V.heap.size p p') (hg : p'.gc = p.gc) : Tw V' p' q2 p2 N L f t S bs :=
  ⟨⟨h.gm.gx.of fun k hk ho => hf.block k hk (h.dis k ho), h.gm.inv, h.gm.len⟩, fun k hk ho => by
    rcases hn k ho with e | e
    · exact h.dis k hk e
    · have := h.gm.gx.lt2 hk; omega, by rw [hg]; exact h.ne⟩
/-- The other one's bytes have changed. -/
theorem Tw.bytes (h : Tw V p q2 p2 N L f t S bs) (hg : Gx V q p N' L' f' t' S' bs') (hb : V.grownBy V' (some p.gc)) : Tw V' p q2 p2 N L f t S bs := by
  obtain ⟨_, _, _, _, _, _, _, _, k8⟩ := hg.kinds
  obtain ⟨j0, j1, j2, j3, j4, j5, j6, j7, j8⟩ := h.gm.gx.kinds
  refine ⟨⟨h.gm.gx.of fun k hk ho => hb.block k hk (fun e => ?_), h.gm.inv, h.gm.len⟩, h.dis, h.ne⟩
  have e : k = p.gc := Option.some.inj e
  rcases ho with e' | e' | e' | e'
  · exact kne (e' ▸ j0) k8 (by decide) e
  · have := (h.gm.gx.own e').2; rw [e, k8] at this; omega
  · exact kne (e' ▸ j7) k8 (by decide) e
  · exact h.ne (by rw [← e', e])
theorem Rn2 {w : World} {qc gc : Nat} {j : Nat} (o : Cl) (h : Ev w V q p N L f t S bs) (hS : S.length ≤ j + 1) (ht : 0 ≤ t ∧ t ≤ j) (h1 : p.qc = qc) (h2 : p.gc = gc) {N' : Int} {L2 : List Sp.Rn} {f2 : Ra.Ws} {t2 : Int} {S2 : List Le.Row} {bs2 : List (BitVec 8)} (hT : Tw V p q2 p2 N' L2 f2 t2 S2 bs2)
    (hb : Bec q p N bs (doO L f t S o) V V') : ∃ p' L' f' t' S', Ev w V' q p' N L' f' t' S' bs ∧ S'.length ≤ j + 1 + 1 ∧ (0 ≤ t' ∧ t' ≤ (j : Int) + 1) ∧ p'.qc = qc ∧ p'.gc = gc ∧ Tw V' p' q2 p2 N' L2 f2 t2 S2 bs2 := by
  have hb' := hb
  obtain ⟨g, m, g1, g2, g3⟩ := hb'
  have hE : Ev w V' q (p.put g m) N (doO L f t S o).L (doO L f t S o).f (doO L f t S o).t (doO L f t S o).S bs := by
    refine ⟨g1, ⟨fun k hk => ?_, h.fresh.2⟩, h.bel.trans (g2.below h.fresh.1 h.bel.size)⟩
    rcases g3 k hk with e | e
    · exact h.fresh.1 k e
    · exact Nat.le_trans h.bel.size e
  have := do_len L f t S o
  have hn := do_stamp L f t S o ht.1
  exact ⟨p.put g m, _, _, _, _, hE, by omega, by omega, h1, h2, hT.step g2 g3 rfl⟩
end
end Go.Proofs.YtjnknnakllbaaaaGreat.Gr
