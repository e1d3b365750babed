/-
  The program's ground beside the document's: what stays of the one when the other changes. Laws that the claimed proof uses.
-/
import Derived.Test.YtjnknnakllbaaaaGreatGrRefTold
import Derived.Test.YtjnknnakllbaaaaGreatGrSum
namespace Go.Proofs.YtjnknnakllbaaaaGreat.Gr
set_option maxRecDepth 100000
open Go.RowKit

section
variable {B P N : Nat} {w w' : World} {x : Rp} {bv : Value} {L : List Sp.Rn} {f : Ra.Ws} {t : Int} {S : List Le.Row} {q : Nat} {p : Pl} {bs : List (BitVec 8)}
theorem Fx.cells (h : Fx x B w w') (hg : kind w x.g = 3) (hm : kind w x.m = 43) (hr : kind w x.r = 39) {k ty : Nat} {a : Array Value} (hk : w.heap[k]? = some (.cells a ty (0, 0))) (h1 : ty ≠ 105 ∧ ty ≠ 58 ∧ ty ≠ 3 ∧ ty ≠ 43 ∧ ty ≠ 39) : w'.heap[k]? = w.heap[k]? := by
  have hb : Blk w k a.toList ty := by show w.heap[k]? = _; rw [hk]
  have := h.keep k a.toList ty hb h1.1 h1.2.1 (kne (kind_of hk) hg h1.2.2.1) (kne (kind_of hk) hm h1.2.2.2.1) (kne (kind_of hk) hr h1.2.2.2.2)
  rw [hk]; exact this
theorem Gm.fx {M : Int} {L' : List Sp.Rn} {f' : Ra.Ws} {t' : Int} {S' : List Le.Row} (h : Gm w q p M L' f' t' S' bs) (hr : Rg B w P x bv N L f t S) (hf : Fx x B w w') : Gm w' q p M L' f' t' S' bs := by
  refine ⟨h.gx.of (fun k hk ho => ?_), h.inv, h.len⟩
  have e := fun {k ty : Nat} {a : Array Value} (hk : w.heap[k]? = some (.cells a ty (0, 0))) h1 => hf.cells hr.kg hr.km hr.kr (k := k) (ty := ty) (a := a) hk h1
  obtain ⟨cap, h1, ⟨cur, h2, _⟩, _⟩ := h.gx.sp
  rcases ho with rfl | (rfl | rfl | rfl | ⟨i, hi, hh⟩ | rfl | rfl) | rfl | rfl
  · exact e h.gx.blk (by decide)
  · exact e h1 (by decide)
  · exact e h2 (by decide)
  · exact e h.gx.mp.lay.blk (by decide)
  · exact e (h.gx.mp.lay.leaf i _ hi hh) (by decide)
  · exact e h.gx.led.blk (by decide)
  · obtain ⟨_, _, ⟨es, c, hb, _⟩, _⟩ := h.gx.led.mp
    rw [hb]; exact hf.maps _ _ _ hb
  · exact e h.gx.mem.1 (by decide)
  · exact e h.gx.mem.2.1 (by decide)
theorem book_kinds {C : Int} {p : Nat} (h : Le.Rf B w p C S) (he : ∀ {k ty : Nat} {a : Array Value}, w.heap[k]? = some (.cells a ty (0, 0)) → (ty = 105 ∨ ty = 58 ∨ ty = 3) → w'.heap[k]? = w.heap[k]?) : Le.Rf B w' p C S := by
  obtain ⟨g, cap, us, h1, h2, h3, h4⟩ := h
  refine ⟨g, cap, us, h1.of (he h1 (by decide)), h2, ?_, fun i hi => ?_⟩
  · refine ⟨h3.1, ?_⟩
    rcases h3.2 with h' | ⟨g', cap', cur, h', r1, r2, r3⟩
    · exact .inl h'
    · refine .inr ⟨g', cap', cur, h', r1, ?_, r3⟩
      exact (he r2 (by decide)).trans r2
  · obtain ⟨v, hv, r, c, vs, e, hr, hb, hh⟩ := h4 i hi
    exact ⟨v, hv, r, c, vs, e, hr, hb.of (he hb (by decide)), hh⟩
theorem Rg.fe {M : Int} {L' : List Sp.Rn} {f' : Ra.Ws} {t' : Int} {S' : List Le.Row} (h : Rg B w P x bv N L f t S) (hg : Gx w q p M L' f' t' S' bs) (hf : Fe p w w') : Rg B w' P x bv N L f t S := by
  have e : ∀ {k ty : Nat} {a : Array Value}, w.heap[k]? = some (.cells a ty (0, 0)) → (ty ≠ 125 ∧ ty ≠ 107 ∧ ty ≠ 129 ∧ ty ≠ 146 ∧ ty ≠ 132 ∧ ty ≠ 0) → w'.heap[k]? = w.heap[k]? := fun {k ty a} hk h1 =>
    hf.block k (Array.getElem?_eq_some_iff.1 hk).1 (hg.other (kind_of hk) h1)
  obtain ⟨vs, hb, _⟩ := h.sp.2.1
  exact ⟨Sp.Blk.of h.blk (e h.blk (by decide)), h.sp.of (e h.sp.1 (by decide)) (e hb (by decide)), ⟨h.mp.blk.of (e h.mp.blk (by decide)), h.mp.row.of (e h.mp.row (by decide))⟩,
    book_kinds h.bk (fun hk ht => e hk (by rcases ht with rfl | rfl | rfl <;> decide)), Nat.le_trans h.hB hf.size, h.lq, h.lg, h.lm, h.lr⟩
/-- Both grounds, newer than a world. -/
structure Jt (w0 : World) (B P : Nat) (x : Rp) (bv : Value) (w : World) (q : Nat) (p : Pl) (N : Nat) (L : List Sp.Rn) (f : Ra.Ws) (t : Int) (S : List Le.Row) (bs : List (BitVec 8)) : Prop where
  ev : Ev w0 w q p N L f t S bs
  rg : Rg B w P x bv N L f t S
  lo : w0.heap.size ≤ B ∧ w0.heap.size ≤ x.g ∧ w0.heap.size ≤ x.m ∧ w0.heap.size ≤ x.r
theorem Jt.below {w0 : World} (h : Jt w0 B P x bv w q p N L f t S bs) (hb : Below w.heap.size w w') : Jt w0 B P x bv w' q p N L f t S bs := ⟨h.ev.below hb, h.rg.below hb, h.lo⟩
/-- The program was told something. -/
theorem Jt.told {w0 : World} {o : Out} (h : Jt w0 B P x bv w q p N L f t S bs) (hb : Bec q p N bs o w w') : ∃ p', Ev w0 w' q p' N o.L o.f o.t o.S bs ∧ Rg B w' P x bv N L f t S := by
  have hb' := hb
  obtain ⟨p', h1, _, _⟩ := h.ev.step hb
  obtain ⟨g, m, _, h2, _⟩ := hb'
  exact ⟨p', h1, h.rg.fe h.ev.gm.gx h2⟩
/-- And so was the document's. -/
theorem Jt.done {w0 : World} {o : Out} (lo : w0.heap.size ≤ B ∧ w0.heap.size ≤ x.g ∧ w0.heap.size ≤ x.m ∧ w0.heap.size ≤ x.r) (h : Ev w0 w q p N o.L o.f o.t o.S bs) (hr : Rg B w P x bv N L f t S) (hb : Bex B P N x bv o w w') : Jt w0 B P x bv w' q p N o.L o.f o.t o.S bs := by
  refine ⟨⟨h.gm.fx hr hb.2, h.fresh, ?_⟩, hb.1, lo⟩
  obtain ⟨l1, l2, l3, l4⟩ := lo
  have hf := hb.2
  exact h.bel.trans ⟨hf.os, hf.tape, hf.output, hf.size, fun k hk => hf.low k (by omega) (by omega) (by omega) (by omega)⟩
/-- What a call adds to the states. -/
theorem do_states (L : List Sp.Rn) (f : Ra.Ws) (t : Int) (S : List Le.Row) (o : Cl) : (doO L f t S o).S = S ∨ ∃ g, (doO L f t S o).S = g :: S := by
  unfold doO openO closeO markO
  repeat' split
  all_goals first | exact .inl rfl | exact .inr ⟨_, rfl⟩
theorem pk_hd {S : List Le.Row} (h : S ≠ []) : Le.tot (Le.hd S) ≤ Le.pk S := by
  cases S with
  | nil => exact absurd rfl h
  | cons g S =>
    have e : Le.pk (g :: S) = max (Le.pk S) (Le.tot g) := rfl
    rw [e, Le.hd_cons]; omega
/-- The most pages that were held. -/
theorem pk_step {M : Int} {L : List Sp.Rn} {f : Ra.Ws} {S S' : List Le.Row} (hi : Inv M L f S') (h : S' = S ∨ ∃ g, S' = g :: S) (hne : S ≠ []) : max (Le.pk S) (M - Sp.fsum L) = Le.pk S' := by
  have h1 := hi.fsum
  have h2 := hi.tot
  rcases h with rfl | ⟨g, rfl⟩
  · have := pk_hd hne; omega
  · have e : Le.pk (g :: S) = max (Le.pk S) (Le.tot g) := rfl
    rw [Le.hd_cons] at h2
    rw [e]; omega
end
end Go.Proofs.YtjnknnakllbaaaaGreat.Gr
