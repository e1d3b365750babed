/-
  What holds between two rounds of the law's loop over an iterator: facts that the claimed proofs use.
-/
import Derived.Test.YtjjilnklcjgndaaEach
namespace Go.Proofs.Ytjjilnklcjgndaa
open Go.RowKit Go.Shelf

/-- No list of the references lies in this block. -/
def Avoid (W : World) (g m X : Nat) : Prop := ∀ i, i < m → ∀ a N c, W.cell? ⟨g, i, none⟩ = some (.slice (some a) N c) → 0 < N → a.block ≠ X
/-- The numbers that were told so far, in their box. -/
structure Got (W : World) (Bg base : Nat) (pre : List Nat) (gb cap : Nat) : Prop where
  box : Boxed W Bg 37 (.slice (some ⟨gb, 0, none⟩) pre.length cap)
  own : W.ownsRow base 3 1 (.slice (some ⟨gb, 0, none⟩) pre.length cap) pre.length (irow pre)
/-- What holds between two rounds. -/
structure Inv (w : World) (n : Int) (v2 : Value) (p : Pl) (g Br Bs : Nat) (pc : Pl) (L : Nat → List Nat) (gf : Nat) (xs : List Nat) (base : Nat) (pre : List Nat) (W : World) : Prop where
  env : ∃ L', Env w n v2 p g Br Bs L' W
  clone : Ring W pc L
  bef : IA base W (some ⟨gf, 0, none⟩) xs
  got : ∃ gb cap, Got W (base + 1) base pre gb cap ∧ Avoid W g p.m gb
  k1 : Bs < base
  k2 : pc.hi ≤ base
  k3 : Bs < pc.lo
  k5 : Bs < gf
  sz : base + 2 ≤ W.heap.size
theorem own_same {W W' : World} {base gb n cap : Nat} {e : TypeId} {xs : List Value} (h : W.ownsRow base e 1 (.slice (some ⟨gb, 0, none⟩) n cap) n xs) (he : W'.heap[gb]? = W.heap[gb]?) : W'.ownsRow base e 1 (.slice (some ⟨gb, 0, none⟩) n cap) n xs := by
  rcases h.2 with ⟨h', _⟩ | ⟨g', cap', cur, h', h1, h2, h3⟩
  · simp at h'
  · simp only [Value.slice.injEq, Option.some.injEq, Addr.mk.injEq, and_true, true_and] at h'
    obtain ⟨rfl, rfl⟩ := h'
    exact ⟨h.1, .inr ⟨_, _, cur, rfl, h1, he.trans h2, h3⟩⟩
theorem Inv.own {w : World} {n : Int} {v2 : Value} {p : Pl} {g Br Bs : Nat} {pc : Pl} {L : Nat → List Nat} {gf : Nat} {xs : List Nat} {base B : Nat} (hB : w.heap.size ≤ B) : OwnFrom B (Inv w n v2 p g Br Bs pc L gf xs base) := by
  intro pre W W' row hs hg hr
  have hk := KeepC.of hg hr
  obtain ⟨⟨L', he⟩, hc, hb, ⟨gb, cap, ⟨hbox, hown⟩, hav⟩, k1, k2, k3, k5, sz⟩ := hs
  obtain ⟨⟨hring, href, hle⟩, ⟨xa, xb, xc, xbel, xsz⟩, hbr, hbs, e1, e2, e3, e4⟩ := he
  refine ⟨⟨L', ⟨hk.ring hring, hk.ref href, hle⟩, ⟨hk.box xa, hk.box xb, hk.box xc, xbel.grown hg xbel.size (fun r e => Nat.le_trans hB (hr r e).1), Nat.le_trans xsz hk.size⟩, hk.box hbr, hk.box hbs, e1, e2, e3, e4⟩,
    hk.ring hc, hk.ia hb, ⟨gb, cap, ⟨hk.box hbox, ?_⟩, fun i hi a N c hcell => ?_⟩, k1, k2, k3, k5, Nat.le_trans sz hk.size⟩
  · rcases hown.2 with ⟨h', _⟩ | ⟨g', cap', cur, h', _, h2, _⟩
    · simp at h'
    · simp only [Value.slice.injEq, Option.some.injEq, Addr.mk.injEq, and_true, true_and] at h'
      obtain ⟨rfl, rfl⟩ := h'
      exact own_same hown (hk.same _ _ _ _ h2)
  · obtain ⟨vs, hblk, _⟩ := href.row
    rw [cell_same (hk.same g _ _ _ hblk)] at hcell
    exact hav i hi a N c hcell
theorem got_at {W : World} {Bg base gb cap : Nat} {pre : List Nat} (h : Got W Bg base pre gb cap) : gotB Bg W = gb := by unfold gotB; rw [h.box.cell]
theorem env_keep {w W W' : World} {n : Int} {v2 : Value} {p : Pl} {g Br Bs : Nat} {L : Nat → List Nat} {Bg gb base : Nat} (h : Env w n v2 p g Br Bs L W) (hs : W.heap.size ≤ W'.heap.size) (hbel : Below w.heap.size w W')
    (keep : ∀ k, k < W.heap.size → k ≠ gb → k ≠ Bg → W'.heap[k]? = W.heap[k]?) (h1 : Bs < base) (h2 : base ≤ gb) (h3 : base ≤ Bg) (hav : Avoid W g p.m gb) (hbg : ∃ A N c, Boxed W Bg 37 (.slice A N c)) : Env w n v2 p g Br Bs L W' := by
  obtain ⟨⟨hring, href, hle⟩, ⟨xa, xb, xc, xbel, xsz⟩, hbr, hbs, e1, e2, e3, e4⟩ := h
  have hlh : p.lo ≤ p.hi := by have := hring.ok.q1; omega
  have low : ∀ k, k ≤ Bs → W'.heap[k]? = W.heap[k]? := fun k hk => keep k (by have := hbs.lt; omega) (by omega) (by omega)
  refine ⟨⟨?_, ?_, hle⟩, ⟨(low _ (by omega)).trans xa, (low _ (by omega)).trans xb, (low _ (by omega)).trans xc, hbel, Nat.le_trans xsz hs⟩, (low _ (by omega)).trans hbr, (low _ (by omega)).trans hbs, e1, e2, e3, e4⟩
  · obtain ⟨inn, cs, nx, pv, hm, hf⟩ := hring
    exact ⟨inn, cs, nx, pv, hm.of hs (fun k _ hk => low k (by omega)), hf⟩
  · obtain ⟨sz, c0, c1, vs, hb, hv⟩ := href
    have l1 := low g (by omega)
    have l2 := low (g + 1) (by omega)
    refine ⟨Nat.le_trans sz hs, (cell_same l2).trans c0, (cell_same l2).trans c1, vs, hb.of l1, fun i hi => ?_⟩
    obtain ⟨v, hv, A, c, rfl, h5, h6, h7, h8⟩ := hv i hi
    refine ⟨_, hv, A, c, rfl, h5, h6, h7, fun hp => ?_⟩
    obtain ⟨b, rfl, h9, h10, h11⟩ := h8 hp
    have hne : b ≠ gb := hav i hi ⟨b, 0, none⟩ _ _ (by rw [hb.cell]; exact hv) hp
    have hne2 : b ≠ Bg := fun e => by
      obtain ⟨A, N, c, hu⟩ := hbg
      subst e
      have := hu.cell.symm.trans (h11 0 hp)
      simp at this
    exact ⟨b, rfl, h9, Nat.lt_of_lt_of_le h10 hs, fun j hj => (cell_same (keep b h10 hne hne2)).trans (h11 j hj)⟩
theorem Inv.append {w : World} {n : Int} {v2 : Value} {p : Pl} {g Br Bs : Nat} {pc : Pl} {L : Nat → List Nat} {gf : Nat} {xs : List Nat} {base : Nat} {pre : List Nat} {W w1 : World} {x gb cap gb' cap' : Nat}
    (h : Inv w n v2 p g Br Bs pc L gf xs base pre W) (hg : Got W (base + 1) base pre gb cap) (hav : Avoid W g p.m gb)
    (ho : w1.ownsRow base 3 1 (.slice (some ⟨gb', 0, none⟩) (pre.length + 1) cap') (pre.length + 1) (irow (pre ++ [x]))) (hgrow : (W.alloc (.cells #[.int .i64 (x : Int)] 3)).grownBy w1 (some gb)) (hnew : gb' = gb ∨ gb' = W.heap.size + 1) :
    Boxed w1 (base + 1) 37 (.slice (some ⟨gb, 0, none⟩) pre.length cap) ∧ Inv w n v2 p g Br Bs pc L gf xs base (pre ++ [x]) (w1.setCell ⟨base + 1, 0, none⟩ (.slice (some ⟨gb', 0, none⟩) (pre.length + 1) cap')) ∧
      KeepsFrom (base + 2) W (w1.setCell ⟨base + 1, 0, none⟩ (.slice (some ⟨gb', 0, none⟩) (pre.length + 1) cap')) ∧ Kp (base + 1) (base + 2) W (w1.setCell ⟨base + 1, 0, none⟩ (.slice (some ⟨gb', 0, none⟩) (pre.length + 1) cap')) := by
  have hgb : base ≤ gb := own_base hg.own gb rfl
  have hgl : gb < W.heap.size := own_lt hg.own
  have hne : gb ≠ base + 1 := fun e => by
    rcases hg.own.2 with ⟨h', _⟩ | ⟨g', c', cur, h', _, h2, _⟩
    · simp at h'
    · simp only [Value.slice.injEq, Option.some.injEq, Addr.mk.injEq, and_true, true_and] at h'
      obtain ⟨rfl, rfl⟩ := h'
      have hb := hg.box
      rw [← e] at hb
      have := (show W.heap[gb]? = _ from hb).symm.trans h2
      simp at this
  obtain ⟨⟨L', he⟩, hc, hb, _, k1, k2, k3, k5, sz⟩ := h
  have sA : (W.alloc (.cells #[.int .i64 (x : Int)] 3)).heap.size = W.heap.size + 1 := World.size_alloc ..
  have s1 : W.heap.size + 1 ≤ w1.heap.size := by rw [← sA]; exact hgrow.size
  have keep1 : ∀ k, k < W.heap.size → k ≠ gb → w1.heap[k]? = W.heap[k]? := fun k hk h1 => (hgrow.block k (by omega) (by simpa using h1)).trans (Below.heap_alloc _ _ _ hk)
  have hbox1 : Boxed w1 (base + 1) 37 (.slice (some ⟨gb, 0, none⟩) pre.length cap) := (keep1 _ hg.box.lt (fun e => hne e.symm)).trans hg.box
  obtain ⟨W2, hW2⟩ : ∃ W2, w1.setCell ⟨base + 1, 0, none⟩ (.slice (some ⟨gb', 0, none⟩) (pre.length + 1) cap') = W2 := ⟨_, rfl⟩
  have keep : ∀ k, k < W.heap.size → k ≠ gb → k ≠ base + 1 → W2.heap[k]? = W.heap[k]? := fun k hk h1 h2 => by rw [← hW2]; exact (set_far _ h2).trans (keep1 k hk h1)
  have sz2 : W2.heap.size = w1.heap.size := by rw [← hW2]; exact set_size _ _ _
  have hbox2 : Boxed W2 (base + 1) 37 (.slice (some ⟨gb', 0, none⟩) (pre.length + 1) cap') := by rw [← hW2]; exact hbox1.set _
  have hgb' : gb' ≠ base + 1 := by rcases hnew with e | e <;> omega
  have hown2 : W2.ownsRow base 3 1 (.slice (some ⟨gb', 0, none⟩) (pre.length + 1) cap') (pre.length + 1) (irow (pre ++ [x])) := by rw [← hW2]; exact own_same ho (set_far _ hgb')
  have hbel : Below w.heap.size w W2 := by
    have hb1 : Below w.heap.size w W := he.boxes.bel
    have e1 := he.k1
    have e2 := he.k2
    have e3 := he.k3
    have e4 := he.k4
    have hlh : p.lo ≤ p.hi := by have := he.both.ring.ok.q1; omega
    rw [← hW2]
    exact ((hb1.alloc (by have := hb1.size; omega) _).grown hgrow (by have := hb1.size; rw [sA]; omega) (fun r e => by cases e; omega)).setCell (p := ⟨base + 1, 0, none⟩) (by show _ ≤ base + 1; omega) _
  rw [hW2]
  refine ⟨hbox1, ⟨⟨L', env_keep he (by omega) hbel keep k1 hgb (by omega) hav ⟨_, _, _, hg.box⟩⟩, ?_, ?_, ⟨gb', cap', ⟨by rw [List.length_append]; exact hbox2, by rw [List.length_append]; exact hown2⟩, ?_⟩, k1, k2, k3, k5, by omega⟩, ⟨by omega, fun k o hk ho' hc' => ?_⟩, ⟨?_, by omega, fun b cs t fr hb' hcs hne' => ?_⟩⟩
  · obtain ⟨inn, cs, nx, pv, hm, hf⟩ := hc
    exact ⟨inn, cs, nx, pv, hm.of (by omega) (fun k _ hk => keep k (by omega) (by omega) (by omega)), hf⟩
  · intro hp
    obtain ⟨b, o, e, hl, hcl⟩ := hb hp
    cases e
    exact ⟨gf, 0, rfl, hl, fun j hj => (cell_same (keep gf (by omega) (by omega) (by omega))).trans (hcl j hj)⟩
  · intro i hi a N c hcell hN
    have eg : W2.heap[g]? = W.heap[g]? := keep g (by have := he.both.ref.sz; omega) (by have := he.k4; omega) (by have := he.k4; omega)
    rw [cell_same eg] at hcell
    rcases hnew with e | e
    · rw [e]; exact hav i hi a N c hcell hN
    · obtain ⟨v, hv, A, c', rfl, _, _, _, h8⟩ := he.both.ref.at_ hi
      rw [hv] at hcell
      simp only [Option.some.injEq, Value.slice.injEq] at hcell
      obtain ⟨rfl, rfl, rfl⟩ := hcell
      obtain ⟨b, e', _, h10, _⟩ := h8 hN
      cases e'
      show b ≠ gb'
      omega
  · have hkl := (Array.getElem?_eq_some_iff.1 ho').1
    rw [keep k hkl (fun e => ?_) (by omega)]
    · exact ho'
    · subst e
      rcases hg.own.2 with ⟨h', _⟩ | ⟨g', c', cur, h', _, h2, _⟩
      · simp at h'
      · simp only [Value.slice.injEq, Option.some.injEq, Addr.mk.injEq, and_true, true_and] at h'
        obtain ⟨rfl, rfl⟩ := h'
        rw [ho'] at h2; cases h2; cases hc'
  · have e1 : gotB (base + 1) W2 = gb' := by unfold gotB; rw [hbox2.cell]
    rw [e1, got_at hg]
    rcases hnew with e | e <;> omega
  · rw [got_at hg] at hne'
    exact keep b (Array.getElem?_eq_some_iff.1 hcs).1 hne' (by omega)
theorem Inv.told {w : World} {n : Int} {v2 : Value} {p : Pl} {g Br Bs : Nat} {pc : Pl} {L : Nat → List Nat} {gf : Nat} {xs : List Nat} {base : Nat} {pre : List Nat} {W W' : World} {e : Ending}
    (h : Inv w n v2 p g Br Bs pc L gf xs base pre W) (ht : Told p g W e W') : Inv w n v2 p g Br Bs pc L gf xs base pre W' ∧ KeepsFrom (base + 2) W W' ∧ Kp (base + 1) (base + 2) W W' := by
  obtain ⟨⟨L', he⟩, hc, hb, ⟨gb, cap, hg, hav⟩, k1, k2, k3, k5, sz⟩ := h
  obtain ⟨L2, he2⟩ := he.told ht
  obtain ⟨_, _, hch, h2, hnw⟩ := ht
  have e2 := he.k2
  have e3 := he.k3
  have e4 := he.k4
  have keep : ∀ k, k < W.heap.size → g < k → W'.heap[k]? = W.heap[k]? := fun k hk h1 => h2 k hk (.inr (by omega)) (by omega)
  have hgl : gb < W.heap.size := own_lt hg.own
  have hgb : base ≤ gb := own_base hg.own gb rfl
  have hg2 : Got W' (base + 1) base pre gb cap := ⟨(keep _ hg.box.lt (by omega)).trans hg.box, own_same hg.own (keep gb hgl (by omega))⟩
  refine ⟨⟨⟨L2, he2⟩, ?_, ?_, ⟨gb, cap, hg2, ?_⟩, k1, k2, k3, k5, Nat.le_trans sz hch.size⟩, ⟨hch.size, fun k o hk ho' _ => ?_⟩, ⟨.inl (by rw [got_at hg, got_at hg2]), hch.size, fun b cs t fr hb' hcs _ => keep b (Array.getElem?_eq_some_iff.1 hcs).1 (by omega)⟩⟩
  · obtain ⟨inn, cs, nx, pv, hm, hf⟩ := hc
    exact ⟨inn, cs, nx, pv, hm.of hch.size (fun k h1 hk => keep k (by omega) (by omega)), hf⟩
  · intro hp
    obtain ⟨b, o, e, hl, hcl⟩ := hb hp
    cases e
    exact ⟨gf, 0, rfl, hl, fun j hj => (cell_same (keep gf (by omega) (by omega))).trans (hcl j hj)⟩
  · intro i hi a N c hcell hN
    rcases hnw i a N c hcell with e | e
    · exact hav i hi a N c e hN
    · omega
  · have hkl := (Array.getElem?_eq_some_iff.1 ho').1
    rw [keep k hkl (by omega)]; exact ho'
end Go.Proofs.Ytjjilnklcjgndaa
