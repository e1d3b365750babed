/-
  How the document's ground becomes another one, and what stays: laws that the claimed proof uses.
-/
import Derived.Test.YtjnknnakllbaaaaGreatGrRefAsk
namespace Go.Proofs.YtjnknnakllbaaaaGreat.Gr
set_option maxRecDepth 100000
open Go.RowKit

theorem low_book {B : Nat} {w w' : World} {p : Nat} {C : Int} {S : List Le.Row} (h : Le.Rf B w p C S) (he : ∀ k, B ≤ k → k < w.heap.size → w'.heap[k]? = w.heap[k]?) : Le.Rf B w' p C S := by
  obtain ⟨g, cap, us, h1, h2, h3, h4⟩ := h
  obtain ⟨vs, hg⟩ := Le.own_lt h3
  refine ⟨g, cap, us, h1.of (he _ h2 h1.lt), h2, ?_, fun i hi => ?_⟩
  · have e := he g (Le.own_base' h3) hg.lt
    refine ⟨h3.1, ?_⟩
    rcases h3.2 with h' | ⟨g', cap', cur, h', r1, r2, r3⟩
    · exact .inl h'
    · refine .inr ⟨g', cap', cur, h', r1, ?_, r3⟩
      simp only [Value.slice.injEq, Option.some.injEq, Addr.mk.injEq, and_true, true_and] at h'
      obtain ⟨rfl, _⟩ := h'
      exact e.trans r2
  · obtain ⟨v, hv, r, c, vs, e, hr, hb, hh⟩ := h4 i hi
    exact ⟨v, hv, r, c, vs, e, hr, hb.of (he r hr hb.lt), hh⟩
/-- What a call of the document's ground leaves as it lay. -/
structure Fx (x : Rp) (B : Nat) (w w' : World) : Prop where
  os : w'.os = w.os
  tape : w'.tape = w.tape
  output : w'.output = w.output
  size : w.heap.size ≤ w'.heap.size
  low : ∀ k, k < B → k ≠ x.g → k ≠ x.m → k ≠ x.r → w'.heap[k]? = w.heap[k]?
  keep : ∀ k vs t, Blk w k vs t → t ≠ 105 → t ≠ 58 → k ≠ x.g → k ≠ x.m → k ≠ x.r → Blk w' k vs t
  maps : ∀ (k : Nat) (es : Array MapEntry) (c : Nat), w.heap[k]? = some (.map es c) → w'.heap[k]? = some (.map es c)
section
variable {B P N : Nat} {w w' w2 : World} {x : Rp} {v : Value} {L L' : List Sp.Rn} {f f' : Ra.Ws} {t t' : Int} {S S' : List Le.Row}
theorem Fx.trans (h : Fx x B w w') (k : Fx x B w' w2) : Fx x B w w2 :=
  ⟨k.os.trans h.os, k.tape.trans h.tape, k.output.trans h.output, Nat.le_trans h.size k.size, fun i a b c d => (k.low i a b c d).trans (h.low i a b c d), fun i vs t hb a b c d e => k.keep i vs t (h.keep i vs t hb a b c d e) a b c d e, fun i es c hm => k.maps i es c (h.maps i es c hm)⟩
theorem Fx.of (h : Below w.heap.size w w') (hB : B ≤ w.heap.size) : Fx x B w w' :=
  ⟨h.os, h.tape, h.output, h.size, fun k hk _ _ _ => h.block k (by omega), fun k vs t hb _ _ _ _ _ => Sp.Blk.of hb (h.block k (Sp.Blk.lt hb)), fun k es c hm => (h.block k (Array.getElem?_eq_some_iff.1 hm).1).trans hm⟩
theorem Rg.kg (h : Rg B w P x v N L f t S) : kind w x.g = 3 := by obtain ⟨vs, hb, _⟩ := h.sp.2.1; exact kind_blk hb
theorem Rg.km (h : Rg B w P x v N L f t S) : kind w x.m = 43 := kind_of h.mp.blk
theorem Rg.kr (h : Rg B w P x v N L f t S) : kind w x.r = 39 := kind_of h.mp.row
theorem Rg.kq (h : Rg B w P x v N L f t S) : kind w x.q = 101 := kind_blk h.sp.1
theorem Rg.kP (h : Rg B w P x v N L f t S) : kind w P = 49 := kind_blk h.blk
theorem map_ne {k g : Nat} {es : Array MapEntry} {c a : Nat} (hm : w.heap[k]? = some (.map es c)) (hg : kind w g = a) (ha : a ≠ 0) : k ≠ g := by
  rintro rfl
  unfold kind at hg; rw [hm] at hg; exact ha hg.symm
theorem Rg.spans (h : Rg B w P x v N L f t S) (hs : Sp.Rs w' x.q x.g N L') (hg : w.grownBy w' (some x.g)) : Rg B w' P x v N L' f t S ∧ Fx x B w w' := by
  have e : ∀ k, k < w.heap.size → k ≠ x.g → w'.heap[k]? = w.heap[k]? := fun k hk hn => hg.block k hk (by simpa using hn)
  have hm := Sp.Blk.lt (show Blk w x.m _ 43 from h.mp.blk)
  have hr := Sp.Blk.lt (show Blk w x.r _ 39 from h.mp.row)
  refine ⟨⟨Sp.Blk.of h.blk (e _ (Sp.Blk.lt h.blk) (kne h.kP h.kg (by decide))), hs, ⟨h.mp.blk.of (e _ hm (kne h.km h.kg (by decide))), h.mp.row.of (e _ hr (kne h.kr h.kg (by decide)))⟩, low_book h.bk (fun k hk hl => e k hl (by have := h.lg; omega)), Nat.le_trans h.hB hg.size, h.lq, h.lg, h.lm, h.lr⟩,
    ⟨hg.os, hg.tape, hg.output, hg.size, fun k hk a _ _ => e k (by have := h.hB; omega) a, fun k vs t hb _ _ a _ _ => Sp.Blk.of hb (e k (Sp.Blk.lt hb) a), fun k es c hm => (e k (Array.getElem?_eq_some_iff.1 hm).1 (map_ne hm h.kg (by decide))).trans hm⟩⟩
theorem Rg.map (h : Rg B w P x v N L f t S) (hm : Ra.Rf w' x.m x.r N t' f') (hf : Ra.F2 x.m x.r w w') : Rg B w' P x v N L f' t' S ∧ Fx x B w w' := by
  have e : ∀ k, k < w.heap.size → k ≠ x.m → k ≠ x.r → w'.heap[k]? = w.heap[k]? := fun k hk h1 h2 => hf.block k hk h1 h2
  have hq := Sp.Blk.lt h.sp.1
  have hg := h.sp.2.1.lt
  refine ⟨⟨Sp.Blk.of h.blk (e _ (Sp.Blk.lt h.blk) (kne h.kP h.km (by decide)) (kne h.kP h.kr (by decide))), h.sp.of (e _ hq (kne h.kq h.km (by decide)) (kne h.kq h.kr (by decide))) (e _ hg (kne h.kg h.km (by decide)) (kne h.kg h.kr (by decide))), hm, low_book h.bk (fun k hk hl => e k hl (by have := h.lm; omega) (by have := h.lr; omega)), Nat.le_trans h.hB hf.size, h.lq, h.lg, h.lm, h.lr⟩,
    ⟨hf.os, hf.tape, hf.output, hf.size, fun k hk _ a b => e k (by have := h.hB; omega) a b, fun k vs t hb _ _ _ a b => Sp.Blk.of hb (e k (Sp.Blk.lt hb) a b), fun k es c hm => (e k (Array.getElem?_eq_some_iff.1 hm).1 (map_ne hm h.km (by decide)) (map_ne hm h.kr (by decide))).trans hm⟩⟩
theorem Rg.book (h : Rg B w P x v N L f t S) (hb : Le.Rf B w' x.k N S') (hf : Le.Ft B w w') : Rg B w' P x v N L f t S' ∧ Fx x B w w' := by
  have hz := hf.bel.size
  have e : ∀ k, k < B → w'.heap[k]? = w.heap[k]? := fun k hk => hf.bel.block k hk
  exact ⟨⟨hf.keep _ _ _ h.blk (by decide) (by decide), h.sp.of (e _ h.lq) (e _ h.lg), ⟨h.mp.blk.of (e _ h.lm), h.mp.row.of (e _ h.lr)⟩, hb, Nat.le_trans h.hB hz, h.lq, h.lg, h.lm, h.lr⟩,
    ⟨hf.bel.os, hf.bel.tape, hf.bel.output, hz, fun k hk _ _ _ => e k hk, fun k vs t hb' a b _ _ _ => hf.keep k vs t hb' a b, fun k es c hm => hf.maps k es c hm⟩⟩
end
end Go.Proofs.YtjnknnakllbaaaaGreat.Gr
