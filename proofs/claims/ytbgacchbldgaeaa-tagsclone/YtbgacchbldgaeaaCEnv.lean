/-
  What stays while an original is told calls beside its clone, and while rows are gathered. Laws that the claimed proofs use.
-/
import Derived.Test.YtbgacchbldgaeaaCBoth
import Derived.Test.YtbgacchbldgaeaaMoves
namespace Go.Proofs.Ytbgacchbldgaeaa.Cl
open Go.RowKit Go.Maps

theorem blk_fr {W W' : World} {b P g : Nat} {vs : List Value} {t : TypeId} {v : Value} {K K' : List Tr} (h : Blk W g vs t) (ht : t ≠ 33) (hm : Mp W b K) (hr : Rf W P v K') (hf : Fr b P W W') : Blk W' g vs t := by
  obtain ⟨es, c, ho⟩ := hm.obj
  have hP := hr.blk
  unfold Blk at hP
  refine h.of (hf.block g h.lt (fun e => ?_) (fun e => ?_))
  · unfold Blk at h; rw [e, ho] at h; cases h
  · unfold Blk at h; rw [e, hP] at h; cases h; exact ht rfl
theorem flat4_int (L : List Tr) : ∀ u ∈ flat4 L, ∃ z : Int, u = .int .i64 z := by
  intro u hu
  obtain ⟨r, _, hr⟩ := List.mem_flatMap.1 hu
  simp only [row4, List.mem_cons, List.not_mem_nil, or_false] at hr
  rcases hr with rfl | rfl | rfl | rfl <;> exact ⟨_, rfl⟩
theorem at_fr {W W' : World} {B b P : Nat} {A : Option Addr} {X : List Tr} {v : Value} {K K' : List Tr} (h : At B W A (flat4 X)) (hm : Mp W b K) (hr : Rf W P v K') (hf : Fr b P W W') : At B W' A (flat4 X) := fun hp => by
  obtain ⟨g, o, e, hg, hc⟩ := h hp
  refine ⟨g, o, e, hg, fun j u hu => ?_⟩
  have hcell := hc j u hu
  obtain ⟨es, c, ho⟩ := hm.obj
  have hl := World.block_lt_of_cell? W _ hcell
  refine (cell_same (hf.block g hl (fun e => ?_) (fun e => ?_))).trans hcell
  · subst e; unfold World.cell? at hcell; simp [ho] at hcell
  · subst e
    obtain ⟨z, rfl⟩ := flat4_int X u (List.mem_of_getElem? hu)
    have h2 := hr.blk.cell (i := o + j)
    rw [h2] at hcell
    obtain ⟨A, c', rfl⟩ := hr.form
    cases hj : o + j with
    | zero => rw [hj] at hcell; simp at hcell
    | succ n => rw [hj] at hcell; simp at hcell
/-- Places: the boxes, the program's tags and the document's. -/
structure Pc where
  Bt : Nat
  Br : Nat
  q : Nat
  b : Nat
  P : Nat
/-- The boxes that the law makes first. -/
structure B0 (w W : World) (v2 : Value) : Prop where
  mo : Blk W w.heap.size [v2] 22
  rs : Blk W (w.heap.size + 1) [.bool false] 4
  bel : Below w.heap.size w W
theorem B0.below {w W W' : World} {v2 : Value} (h : B0 w W v2) (hb : Below W.heap.size W W') : B0 w W' v2 := ⟨h.mo.below hb, h.rs.below hb, up_trans h.bel hb⟩
theorem B0.made (w : World) (v2 : Value) : B0 w ((w.alloc (.cells #[v2] 22)).alloc (.cells #[.bool false] 4)) v2 := by
  have up : ∀ (V : World) (o : Obj), Below V.heap.size V (V.alloc o) := fun V o => up_alloc (Below.refl _ _) o
  refine ⟨(Blk.new w [v2] 22).below (up _ _), ?_, up_alloc (up_alloc (Below.refl _ _) _) _⟩
  have := Blk.new (w.alloc (.cells #[v2] 22)) [.bool false] 4
  rwa [World.size_alloc] at this
/-- The first loop's state: program and document hold the same rows. -/
structure E1 (w W : World) (v2 : Value) (p : Pc) (L : List Tr) : Prop where
  bx : B0 w W v2
  tb : Blk W p.Bt [.pointer (some ⟨p.q, 0, none⟩)] 28
  rb : Blk W p.Br [.pointer (some ⟨p.P, 0, none⟩)] 30
  tg : Tg W p.q p.b L
  rf : ∃ v, Rf W p.P v L
  kb : w.heap.size + 2 ≤ p.b
  kP : w.heap.size + 2 ≤ p.P
section
variable {w W W' : World} {v2 : Value} {p : Pc} {L L' : List Tr}
theorem E1.below (h : E1 w W v2 p L) (hb : Below W.heap.size W W') : E1 w W' v2 p L := by
  obtain ⟨v, hr⟩ := h.rf
  exact ⟨h.bx.below hb, h.tb.below hb, h.rb.below hb, h.tg.below hb, ⟨v, hr.below hb⟩, h.kb, h.kP⟩
theorem B0.fr {K K' : List Tr} {v : Value} (h : B0 w W v2) {b P : Nat} (hm : Mp W b K) (hr : Rf W P v K') (hf : Fr b P W W') (kb : w.heap.size + 2 ≤ b) (kP : w.heap.size + 2 ≤ P) : B0 w W' v2 :=
  ⟨blk_fr h.mo (by decide) hm hr hf, blk_fr h.rs (by decide) hm hr hf, h.bel.trans (hf.below (by omega) (by omega) h.bel.size)⟩
theorem E1.told {v : Value} (h : E1 w W v2 p L) (hr : Rf W p.P v L) (ht : Tg W' p.q p.b L') (hr' : ∃ v', Rf W' p.P v' L' ∧ (v' = v ∨ ∀ j, v'.ownBlock = some j → W.heap.size ≤ j)) (hf : Fr p.b p.P W W') : E1 w W' v2 p L' := by
  obtain ⟨v', hr', _⟩ := hr'
  exact ⟨h.bx.fr h.tg.mp hr hf h.kb h.kP, blk_fr h.tb (by decide) h.tg.mp hr hf, blk_fr h.rb (by decide) h.tg.mp hr hf, ht, ⟨v', hr'⟩, h.kb, h.kP⟩
end
/-- More places: the rows of before, the clone; from base on lies what the second loop makes. -/
structure Pd extends Pc where
  Bb : Nat
  A : Option Addr
  ca : Nat
  qc : Nat
  bc : Nat
  base : Nat
/-- What lies below base and never changes. -/
structure Sta (w W : World) (v2 : Value) (p : Pd) (X : List Tr) : Prop where
  bx : B0 w W v2
  tb : Blk W p.Bt [.pointer (some ⟨p.q, 0, none⟩)] 28
  rb : Blk W p.Br [.pointer (some ⟨p.P, 0, none⟩)] 30
  bb : Blk W p.Bb [.slice p.A X.length p.ca] 31
  at' : At p.base W p.A (flat4 X)
  cl : Tg W p.qc p.bc X
/-- How these places lie. -/
structure Nums (w : World) (p : Pd) : Prop where
  kb : w.heap.size + 2 ≤ p.b
  kP : w.heap.size + 2 ≤ p.P
  bc : p.b < p.bc
  lb : p.b < p.base
  lP : p.P < p.base
  lq : p.q < p.base
  lt : p.Bt < p.base
  lr : p.Br < p.base
  lB : p.Bb < p.base
  lc : p.qc < p.base
  ld : p.bc < p.base
section
variable {w W W' : World} {v2 : Value} {p : Pd} {X L L' : List Tr}
theorem Sta.low (h : Sta w W v2 p X) (hn : Nums w p) (hs : p.base ≤ W.heap.size) (hb : Below p.base W W') : Sta w W' v2 p X := by
  have h0 := hn.kb
  have h1 := hn.lb
  have e : ∀ k, k < p.base → W'.heap[k]? = W.heap[k]? := fun k hk => hb.block k hk
  have hw : Below w.heap.size W W' := ⟨hb.os, hb.tape, hb.output, hb.size, fun k hk => hb.block k (by omega)⟩
  exact ⟨⟨h.bx.mo.of (e _ (by omega)), h.bx.rs.of (e _ (by omega)), h.bx.bel.trans hw⟩, h.tb.of (e _ hn.lt), h.rb.of (e _ hn.lr), h.bb.of (e _ hn.lB), h.at'.below hb, h.cl.of (e _ hn.lc) (e _ hn.ld)⟩
theorem Sta.fr {v : Value} (h : Sta w W v2 p X) (hn : Nums w p) (ht : Tg W p.q p.b L) (hr : Rf W p.P v L') (hf : Fr p.b p.P W W') : Sta w W' v2 p X := by
  refine ⟨h.bx.fr ht.mp hr hf hn.kb hn.kP, blk_fr h.tb (by decide) ht.mp hr hf, blk_fr h.rb (by decide) ht.mp hr hf, blk_fr h.bb (by decide) ht.mp hr hf, at_fr h.at' ht.mp hr hf, ?_⟩
  obtain ⟨es, c, ho⟩ := h.cl.mp.obj
  have hP := hr.blk
  unfold Blk at hP
  have hb1 : Blk W' p.qc [.map (some p.bc)] 66 := blk_fr h.cl.blk (by decide) ht.mp hr hf
  refine ⟨hb1, h.cl.mp.of (hf.block p.bc h.cl.mp.lt (fun e => ?_) (fun e => ?_)), h.cl.wf⟩
  · have := hn.bc; omega
  · rw [e, hP] at ho; cases ho
/-- What holds between two rounds of the loop that gathers rows. -/
structure Iv (w : World) (v2 : Value) (p : Pd) (X pre : List Tr) (W : World) : Prop where
  sta : Sta w W v2 p X
  sz : p.base ≤ W.heap.size
  run : ∃ g cap L v, Got W (p.base + 1) p.base pre g cap ∧ Tg W p.q p.b L ∧ Rf W p.P v L ∧ ∀ j, v.ownBlock = some j → j ≠ g
theorem Got.box_ne {Bg base g cap : Nat} {pre : List Tr} {v : Value} {P : Nat} (h : Got W Bg base pre g cap) (hr : Rf W P v L) : ∀ j, v.ownBlock = some j → j ≠ Bg := fun j hj e => by
  obtain ⟨cur, hc⟩ := own_cells hr.own hj
  have hx := h.box
  unfold Blk at hx
  rw [e, hx] at hc; cases hc
theorem below_of {B : Nat} (hb : Below W.heap.size W W') (h : B ≤ W.heap.size) : Below B W W' := ⟨hb.os, hb.tape, hb.output, hb.size, fun k hk => hb.block k (by omega)⟩
theorem Iv.below (h : Iv w v2 p X L W) (hn : Nums w p) (hb : Below W.heap.size W W') : Iv w v2 p X L W' := by
  obtain ⟨g, cap, K, v, h1, h2, h3, h4⟩ := h.run
  exact ⟨h.sta.low hn h.sz (below_of hb h.sz), Nat.le_trans h.sz hb.size, g, cap, K, v, h1.below hb, h2.below hb, h3.below hb, h4⟩
theorem Iv.own {B : Nat} (hn : Nums w p) (hB : p.base ≤ B) : OwnFrom B (Iv w v2 p X) := by
  intro pre W W' row hs hg hr
  obtain ⟨g, cap, K, v, h1, h2, h3, h4⟩ := hs.run
  have hb : Below p.base W W' := ⟨hg.os, hg.tape, hg.output, hg.size, fun k hk => hg.block k (Nat.lt_of_lt_of_le hk hs.sz) (fun e => by have := (hr k e.symm).1; omega)⟩
  refine ⟨hs.sta.low hn hs.sz hb, Nat.le_trans hs.sz hg.size, g, cap, K, v, h1.keeps hg hr, h2.of (hb.block _ hn.lq) (hb.block _ hn.lb), ⟨h3.blk.of (hb.block _ hn.lP), own_keeps h3.own hg hr⟩, h4⟩
/-- A round's append. -/
theorem Iv.app {g cap g' cap' : Nat} {pre : List Tr} {x : Tr} {w5 : World} {K : List Tr} {v : Value} (hn : Nums w p) (hS : Sta w W v2 p X) (hsz : p.base ≤ W.heap.size) (hg : Got W (p.base + 1) p.base pre g cap) (ht : Tg W p.q p.b K) (hr : Rf W p.P v K) (hv : ∀ j, v.ownBlock = some j → j ≠ g)
    (ha : Apd W p.base (p.base + 1) g pre.length cap pre x g' cap' w5) : Iv w v2 p X (pre ++ [x]) (w5.setCell ⟨p.base + 1, 0, none⟩ (.slice (some ⟨g', 0, none⟩) (pre.length + 1) cap')) := by
  obtain ⟨n1, n2, _, _⟩ := ha.done hg
  have hb := n2.below (B := p.base) hg.ge.1 (by omega) hsz
  have hlP := hn.lP
  refine ⟨hS.low hn hsz hb, Nat.le_trans hsz hb.size, g', cap', K, v, n1, ht.of (hb.block _ hn.lq) (hb.block _ hn.lb), ⟨hr.blk.of (hb.block _ hlP), own_of hr.own (fun j hj => n2.block j (hr.own.lt j hj).2 (hv j hj) (Got.box_ne hg hr j hj))⟩, fun j hj => ?_⟩
  rcases ha.new with e | e
  · rw [e]; exact hv j hj
  · have := (hr.own.lt j hj).2; omega
/-- A round's call. -/
theorem Iv.told {pre : List Tr} {g cap : Nat} {v : Value} (hn : Nums w p) (hS : Sta w W v2 p X) (hsz : p.base ≤ W.heap.size) (hg : Got W (p.base + 1) p.base pre g cap) (ht : Tg W p.q p.b L) (hr : Rf W p.P v L) (hv : ∀ j, v.ownBlock = some j → j ≠ g)
    (ht' : Tg W' p.q p.b L') (hr' : ∃ v', Rf W' p.P v' L' ∧ (v' = v ∨ ∀ j, v'.ownBlock = some j → W.heap.size ≤ j)) (hf : Fr p.b p.P W W') :
    Iv w v2 p X pre W' ∧ Got W' (p.base + 1) p.base pre g cap ∧ KeepsFrom p.base W W' ∧ ∀ n1, p.base ≤ n1 → Kp (p.base + 1) n1 W W' := by
  obtain ⟨v', hr', hn'⟩ := hr'
  have h1 := hn.lb
  have h2 := hn.lP
  have hge := hg.ge
  have hbl := hg.box.lt
  have hG : Got W' (p.base + 1) p.base pre g cap := ⟨hg.box.of (hf.block _ hbl (by omega) (by omega)), own_of hg.own (fun j hj => by cases hj; exact hf.block g hge.2 (by omega) (by omega))⟩
  refine ⟨⟨hS.fr hn ht hr hf, Nat.le_trans hsz hf.size, g, cap, L', v', hG, ht', hr', fun j hj => ?_⟩, hG, ⟨hf.size, fun k o hk ho _ => (hf.block k (Array.getElem?_eq_some_iff.1 ho).1 (by omega) (by omega)).trans ho⟩, fun n1 hn1 => ⟨.inl (by rw [hG.at, hg.at]), hf.size, fun k o hk ho _ _ => hf.block k (Array.getElem?_eq_some_iff.1 ho).1 (by omega) (by omega)⟩⟩
  rcases hn' with rfl | hn'
  · exact hv j hj
  · have := hn' j hj; omega
end
end Go.Proofs.Ytbgacchbldgaeaa.Cl
