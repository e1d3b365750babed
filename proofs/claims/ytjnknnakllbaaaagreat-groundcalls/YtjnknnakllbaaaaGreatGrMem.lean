/-
  What a ground is in memory: laws that the claimed proofs use.
-/
import Derived.Test.YtjnknnakllbaaaaGreatSpTaken
import Derived.Test.YtjnknnakllbaaaaGreatLeA
import Derived.Test.YtjnknnakllbaaaaGreatRaNew
import Derived.Test.YtjnknnakllbaaaaGreatCeA
import Derived.Test.YtjnknnakllbaaaaGreatGrBase
namespace Go.Proofs.YtjnknnakllbaaaaGreat.Gr
set_option maxRecDepth 100000
open Go.RowKit

theorem up_trans {w W w2 : World} (h : Below w.heap.size w W) (h2 : Below W.heap.size W w2) : Below w.heap.size w w2 := h.trans (h2.mono h.size)
theorem up_alloc {w W : World} (h : Below w.heap.size w W) (o : Obj) : Below w.heap.size w (W.alloc o) := h.alloc h.size o
theorem up_drew {w W : World} (h : Below w.heap.size w W) : ∀ k, Below w.heap.size w (W.drewN k)
  | 0 => h
  | k + 1 => (up_drew h k).drew
theorem i64_in (n : Int) (h0 : -4611686018427387904 ≤ n) (h1 : n ≤ 4611686018427387904) : IntKind.i64.wrap n = n := by rw [IntKind.wrap_i64]; omega
abbrev Blk (w : World) (g : Nat) (vs : List Value) (t : TypeId) : Prop := Sp.Blk w g vs t
theorem Blk.below {w w' : World} {g : Nat} {vs : List Value} {t : TypeId} (h : Blk w g vs t) (hb : Below w.heap.size w w') : Blk w' g vs t := Sp.Blk.of h (hb.block g (Sp.Blk.lt h))
theorem Blk.new (w : World) (vs : List Value) (t : TypeId) : Blk (w.alloc (.cells vs.toArray t)) w.heap.size vs t := heap_alloc_last w _
/-- Of what kind a block is; 0: it is no row of cells. -/
def kind (w : World) (k : Nat) : Nat := match w.heap[k]? with
  | some (.cells _ t _) => t
  | _ => 0
theorem kind_of {w : World} {k t : Nat} {a : Array Value} {fr : Nat × Nat} (h : w.heap[k]? = some (.cells a t fr)) : kind w k = t := by unfold kind; rw [h]
theorem kind_blk {w : World} {g : Nat} {vs : List Value} {t : TypeId} (h : Blk w g vs t) : kind w g = t := kind_of h
theorem kne {w : World} {a b x y : Nat} (h1 : kind w a = x) (h2 : kind w b = y) (h : x ≠ y) : a ≠ b := fun e => h (by rw [← h1, ← h2, e])
theorem kind_map {w : World} {b : Nat} {S : List Le.Row} (h : Le.Mp w b S) : kind w b = 0 := by
  obtain ⟨_, _, ⟨es, c, hb, _⟩, _⟩ := h
  unfold kind; rw [hb]

/-! ### A ground's parts -/
structure Pl where
  qs : Nat
  gs : Nat
  qm : Nat
  gm : Ra.Gs
  ql : Nat
  bl : Nat
  qc : Nat
  gc : Nat
def Pl.put (p : Pl) (g : Nat) (m : Ra.Gs) : Pl := ⟨p.qs, g, p.qm, m, p.ql, p.bl, p.qc, p.gc⟩
/-- The blocks that a call may change. -/
def Own (p : Pl) (k : Nat) : Prop := k = p.qs ∨ k = p.gs ∨ k = p.qm ∨ (∃ i, i < 64 ∧ p.gm i = some k) ∨ k = p.ql ∨ k = p.bl
structure Fe (p : Pl) (w w' : World) : Prop where
  os : w'.os = w.os
  tape : w'.tape = w.tape
  output : w'.output = w.output
  size : w.heap.size ≤ w'.heap.size
  block : ∀ k, k < w.heap.size → ¬ Own p k → w'.heap[k]? = w.heap[k]?
def Nw (B : Nat) (p p' : Pl) : Prop := ∀ k, Own p' k → Own p k ∨ B ≤ k
theorem Nw.refl (B : Nat) (p : Pl) : Nw B p p := fun _ h => .inl h
theorem Nw.trans {B B' : Nat} {p p' p'' : Pl} (h : Nw B p p') (k : Nw B' p' p'') (hB : B ≤ B') : Nw B p p'' := fun x hx => by
  rcases k x hx with h1 | h1
  · exact h x h1
  · exact .inr (by omega)
theorem Nw.put {B : Nat} {p : Pl} {g : Nat} {m : Ra.Gs} (hg : g = p.gs ∨ B ≤ g) (hm : Ra.Newer B p.gm m) : Nw B p (p.put g m) := fun k hk => by
  rcases hk with h | h | h | ⟨i, hi, h⟩ | h | h
  · exact .inl (.inl h)
  · rcases hg with e | e
    · exact .inl (.inr (.inl (h.trans e)))
    · right; have h' : k = g := h; omega
  · exact .inl (.inr (.inr (.inl h)))
  · rcases hm i k hi h with e | e
    · exact .inl (.inr (.inr (.inr (.inl ⟨i, hi, e⟩))))
    · exact .inr e
  · exact .inl (.inr (.inr (.inr (.inr (.inl h)))))
  · exact .inl (.inr (.inr (.inr (.inr (.inr h)))))
theorem Fe.refl (p : Pl) (w : World) : Fe p w w := ⟨rfl, rfl, rfl, Nat.le_refl _, fun _ _ _ => rfl⟩
theorem Fe.of {p : Pl} {a b : World} (h : Below a.heap.size a b) : Fe p a b := ⟨h.os, h.tape, h.output, h.size, fun k hk _ => h.block k hk⟩
theorem Fe.trans {p p' : Pl} {a b c : World} (h : Fe p a b) (k : Fe p' b c) (hn : Nw a.heap.size p p') : Fe p a c :=
  ⟨k.os.trans h.os, k.tape.trans h.tape, k.output.trans h.output, Nat.le_trans h.size k.size, fun i hi h1 => (k.block i (Nat.lt_of_lt_of_le hi h.size) (fun ho => by
    rcases hn i ho with e | e
    · exact h1 e
    · omega)).trans (h.block i hi h1)⟩
theorem Fe.below {p : Pl} {B : Nat} {a b : World} (h : Fe p a b) (h1 : ∀ k, Own p k → B ≤ k) (hB : B ≤ a.heap.size) : Below B a b :=
  ⟨h.os, h.tape, h.output, h.size, fun k hk => h.block k (by omega) (fun ho => by have := h1 k ho; omega)⟩
theorem Fe.sp {p : Pl} {a b : World} (h : Sp.Fr p.qs p.gs a b) : Fe p a b := ⟨h.os, h.tape, h.output, h.size, fun k hk ho => h.block k hk (fun e => ho (.inl e)) (fun e => ho (.inr (.inl e)))⟩
theorem Fe.ra {p : Pl} {a b : World} (h : Ra.Fr p.qm p.gm a b) : Fe p a b := ⟨h.os, h.tape, h.output, h.size, fun k hk ho => h.block k hk (fun e => ho (.inr (.inr (.inl e)))) (fun i hi e => ho (.inr (.inr (.inr (.inl ⟨i, hi, e⟩)))))⟩
theorem Fe.le {p : Pl} {a b : World} (h : Le.Fr p.ql p.bl a b) : Fe p a b := ⟨h.os, h.tape, h.output, h.size, fun k hk ho => h.block k hk (fun e => ho (.inr (.inr (.inr (.inr (.inl e)))))) (fun e => ho (.inr (.inr (.inr (.inr (.inr e))))))⟩
structure Gx (w : World) (q : Nat) (p : Pl) (N : Int) (L : List Sp.Rn) (f : Ra.Ws) (t : Int) (S : List Le.Row) (bs : List (BitVec 8)) : Prop where
  blk : Blk w q [.pointer (some ⟨p.qs, 0, none⟩), .pointer (some ⟨p.qm, 0, none⟩), .pointer (some ⟨p.ql, 0, none⟩), .pointer (some ⟨p.qc, 0, none⟩)] 93
  sp : Sp.Sp w p.qs p.gs L
  mp : Ra.Mp w p.qm N t p.gm f
  led : Le.Led w p.ql p.bl N S
  mem : Ce.Mem w p.qc p.gc bs
section
variable {w w' : World} {q : Nat} {p : Pl} {N t : Int} {L : List Sp.Rn} {f : Ra.Ws} {S : List Le.Row} {bs : List (BitVec 8)}
theorem Gx.kinds (h : Gx w q p N L f t S bs) : kind w q = 93 ∧ kind w p.qs = 125 ∧ kind w p.gs = 107 ∧ kind w p.qm = 129 ∧ (∀ i b, i < 64 → p.gm i = some b → kind w b = 146) ∧ kind w p.ql = 132 ∧ kind w p.bl = 0 ∧ kind w p.qc = 115 ∧ kind w p.gc = 5 := by
  obtain ⟨cap, h1, ⟨cur, h2, _⟩, _⟩ := h.sp
  exact ⟨kind_of h.blk, kind_of h1, kind_of h2, kind_of h.mp.lay.blk, fun i b hi hb => kind_of (h.mp.lay.leaf i b hi hb), kind_of h.led.blk, kind_map h.led.mp, kind_of h.mem.1, kind_of h.mem.2.1⟩
theorem Gx.lt (h : Gx w q p N L f t S bs) : q < w.heap.size ∧ p.qs < w.heap.size ∧ p.gs < w.heap.size ∧ p.qm < w.heap.size ∧ (∀ i b, i < 64 → p.gm i = some b → b < w.heap.size) ∧ p.ql < w.heap.size ∧ p.bl < w.heap.size ∧ p.qc < w.heap.size ∧ p.gc < w.heap.size :=
  ⟨Sp.Blk.lt h.blk, h.sp.lt.1, h.sp.lt.2, h.mp.lay.blk.lt, fun i b hi hb => (h.mp.lay.leaf i b hi hb).lt, h.led.blk.lt, h.led.mp.lt, h.mem.lt, h.mem.2.1.lt⟩
/-- What a ground's block is of. -/
theorem Gx.own (h : Gx w q p N L f t S bs) {k : Nat} (ho : Own p k) : k < w.heap.size ∧ (kind w k = 125 ∨ kind w k = 107 ∨ kind w k = 129 ∨ kind w k = 146 ∨ kind w k = 132 ∨ kind w k = 0) := by
  obtain ⟨_, a1, a2, a3, a4, a5, a6, _, _⟩ := h.kinds
  obtain ⟨_, b1, b2, b3, b4, b5, b6, _, _⟩ := h.lt
  rcases ho with e | e | e | ⟨i, hi, e⟩ | e | e
  · subst e; exact ⟨b1, .inl a1⟩
  · subst e; exact ⟨b2, .inr (.inl a2)⟩
  · subst e; exact ⟨b3, .inr (.inr (.inl a3))⟩
  · exact ⟨b4 i k hi e, .inr (.inr (.inr (.inl (a4 i k hi e))))⟩
  · subst e; exact ⟨b5, .inr (.inr (.inr (.inr (.inl a5))))⟩
  · subst e; exact ⟨b6, .inr (.inr (.inr (.inr (.inr a6))))⟩
/-- A block of another kind is none of a ground's that a call may change. -/
theorem Gx.other (h : Gx w q p N L f t S bs) {k t' : Nat} (hk : kind w k = t') (ht : t' ≠ 125 ∧ t' ≠ 107 ∧ t' ≠ 129 ∧ t' ≠ 146 ∧ t' ≠ 132 ∧ t' ≠ 0) : ¬ Own p k := fun ho => by
  have := (h.own ho).2; omega
theorem Gx.of (h : Gx w q p N L f t S bs) (hb : ∀ k, k < w.heap.size → (k = q ∨ Own p k ∨ k = p.qc ∨ k = p.gc) → w'.heap[k]? = w.heap[k]?) : Gx w' q p N L f t S bs := by
  obtain ⟨a0, a1, a2, a3, a4, a5, a6, a7, a8⟩ := h.lt
  refine ⟨Sp.Blk.of h.blk (hb _ a0 (.inl rfl)), h.sp.of (hb _ a1 (.inr (.inl (.inl rfl)))) (hb _ a2 (.inr (.inl (.inr (.inl rfl))))), ⟨h.mp.lay.of (hb _ a3 (.inr (.inl (.inr (.inr (.inl rfl)))))) (fun i b hi e => hb _ (a4 i b hi e) (.inr (.inl (.inr (.inr (.inr (.inl ⟨i, hi, e⟩))))))), h.mp.kept, h.mp.st⟩,
    h.led.of (hb _ a5 (.inr (.inl (.inr (.inr (.inr (.inr (.inl rfl)))))))) (hb _ a6 (.inr (.inl (.inr (.inr (.inr (.inr (.inr rfl)))))))), h.mem.of_blocks (hb _ a7 (.inr (.inr (.inl rfl)))) (hb _ a8 (.inr (.inr (.inr rfl))))⟩
theorem Gx.below (h : Gx w q p N L f t S bs) (hb : Below w.heap.size w w') : Gx w' q p N L f t S bs := h.of (fun k hk _ => hb.block k hk)
/-- Spans have changed. -/
theorem Gx.spans (h : Gx w q p N L f t S bs) {g' : Nat} {L' : List Sp.Rn} (hs : Sp.Sp w' p.qs g' L') (hf : Sp.Fr p.qs p.gs w w') : Gx w' q (p.put g' p.gm) N L' f t S bs := by
  obtain ⟨k0, k1, k2, k3, k4, k5, k6, k7, k8⟩ := h.kinds
  obtain ⟨a0, a1, a2, a3, a4, a5, a6, a7, a8⟩ := h.lt
  have far : ∀ k t', kind w k = t' → t' ≠ 125 → t' ≠ 107 → k < w.heap.size → w'.heap[k]? = w.heap[k]? := fun k t' hk h1 h2 hl => hf.block k hl (kne hk k1 h1) (kne hk k2 h2)
  exact ⟨Sp.Blk.of h.blk (far _ _ k0 (by decide) (by decide) a0), hs, ⟨h.mp.lay.of (far _ _ k3 (by decide) (by decide) a3) (fun i b hi e => far _ _ (k4 i b hi e) (by decide) (by decide) (a4 i b hi e)), h.mp.kept, h.mp.st⟩,
    h.led.of (far _ _ k5 (by decide) (by decide) a5) (far _ _ k6 (by decide) (by decide) a6), h.mem.of_blocks (far _ _ k7 (by decide) (by decide) a7) (far _ _ k8 (by decide) (by decide) a8)⟩
/-- The map has changed. -/
theorem Gx.radix (h : Gx w q p N L f t S bs) {m' : Ra.Gs} {f' : Ra.Ws} {t' : Int} (hm : Ra.Mp w' p.qm N t' m' f') (hf : Ra.Fr p.qm p.gm w w') : Gx w' q (p.put p.gs m') N L f' t' S bs := by
  obtain ⟨k0, k1, k2, k3, k4, k5, k6, k7, k8⟩ := h.kinds
  obtain ⟨a0, a1, a2, a3, a4, a5, a6, a7, a8⟩ := h.lt
  have far : ∀ k t', kind w k = t' → t' ≠ 129 → t' ≠ 146 → k < w.heap.size → w'.heap[k]? = w.heap[k]? := fun k t' hk h1 h2 hl => hf.block k hl (kne hk k3 h1) (fun i hi e => kne hk (k4 i k hi e) h2 rfl)
  exact ⟨Sp.Blk.of h.blk (far _ _ k0 (by decide) (by decide) a0), h.sp.of (far _ _ k1 (by decide) (by decide) a1) (far _ _ k2 (by decide) (by decide) a2), hm,
    h.led.of (far _ _ k5 (by decide) (by decide) a5) (far _ _ k6 (by decide) (by decide) a6), h.mem.of_blocks (far _ _ k7 (by decide) (by decide) a7) (far _ _ k8 (by decide) (by decide) a8)⟩
/-- The book has changed. -/
theorem Gx.book (h : Gx w q p N L f t S bs) {S' : List Le.Row} (hl : Le.Led w' p.ql p.bl N S') (hf : Le.Fr p.ql p.bl w w') : Gx w' q p N L f t S' bs := by
  obtain ⟨k0, k1, k2, k3, k4, k5, k6, k7, k8⟩ := h.kinds
  obtain ⟨a0, a1, a2, a3, a4, a5, a6, a7, a8⟩ := h.lt
  have far : ∀ k t', kind w k = t' → t' ≠ 132 → t' ≠ 0 → k < w.heap.size → w'.heap[k]? = w.heap[k]? := fun k t' hk h1 h2 hl => hf.block k hl (kne hk k5 h1) (kne hk k6 h2)
  exact ⟨Sp.Blk.of h.blk (far _ _ k0 (by decide) (by decide) a0), h.sp.of (far _ _ k1 (by decide) (by decide) a1) (far _ _ k2 (by decide) (by decide) a2), ⟨h.mp.lay.of (far _ _ k3 (by decide) (by decide) a3) (fun i b hi e => far _ _ (k4 i b hi e) (by decide) (by decide) (a4 i b hi e)), h.mp.kept, h.mp.st⟩,
    hl, h.mem.of_blocks (far _ _ k7 (by decide) (by decide) a7) (far _ _ k8 (by decide) (by decide) a8)⟩
/-- The memory's bytes have changed. -/
theorem Gx.bytes (h : Gx w q p N L f t S bs) {cs : List (BitVec 8)} (hm : Ce.Mem w' p.qc p.gc cs) (hf : w.grownBy w' (some p.gc)) : Gx w' q p N L f t S cs := by
  obtain ⟨k0, k1, k2, k3, k4, k5, k6, k7, k8⟩ := h.kinds
  obtain ⟨a0, a1, a2, a3, a4, a5, a6, a7, a8⟩ := h.lt
  have far : ∀ k t', kind w k = t' → t' ≠ 5 → k < w.heap.size → w'.heap[k]? = w.heap[k]? := fun k t' hk h1 hl => hf.block k hl (fun e => kne hk k8 h1 (Option.some.inj e))
  exact ⟨Sp.Blk.of h.blk (far _ _ k0 (by decide) a0), h.sp.of (far _ _ k1 (by decide) a1) (far _ _ k2 (by decide) a2), ⟨h.mp.lay.of (far _ _ k3 (by decide) a3) (fun i b hi e => far _ _ (k4 i b hi e) (by decide) (a4 i b hi e)), h.mp.kept, h.mp.st⟩,
    h.led.of (far _ _ k5 (by decide) a5) (far _ _ k6 (by decide) a6), hm⟩
theorem Gx.cells (h : Gx w q p N L f t S bs) : w.cell? ⟨q, 0, none⟩ = some (.pointer (some ⟨p.qs, 0, none⟩)) ∧ w.cell? ⟨q, 1, none⟩ = some (.pointer (some ⟨p.qm, 0, none⟩)) ∧ w.cell? ⟨q, 2, none⟩ = some (.pointer (some ⟨p.ql, 0, none⟩)) ∧ w.cell? ⟨q, 3, none⟩ = some (.pointer (some ⟨p.qc, 0, none⟩)) :=
  ⟨Sp.Blk.cell h.blk, Sp.Blk.cell h.blk, Sp.Blk.cell h.blk, Sp.Blk.cell h.blk⟩
end
/-- A ground, and what is true of its numbers. -/
structure Gm (w : World) (q : Nat) (p : Pl) (N : Int) (L : List Sp.Rn) (f : Ra.Ws) (t : Int) (S : List Le.Row) (bs : List (BitVec 8)) : Prop where
  gx : Gx w q p N L f t S bs
  inv : Inv N L f S
  len : (bs.length : Int) = 256 * N
theorem Gm.below {w w' : World} {q : Nat} {p : Pl} {N t : Int} {L : List Sp.Rn} {f : Ra.Ws} {S : List Le.Row} {bs : List (BitVec 8)} (h : Gm w q p N L f t S bs) (hb : Below w.heap.size w w') : Gm w' q p N L f t S bs := ⟨h.gx.below hb, h.inv, h.len⟩
end Go.Proofs.YtjnknnakllbaaaaGreat.Gr
