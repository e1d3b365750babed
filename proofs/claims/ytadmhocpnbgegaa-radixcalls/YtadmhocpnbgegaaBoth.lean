/-
  The program's map and the document's beside each other: words that the claimed proof uses.
-/
import Derived.Test.YtadmhocpnbgegaaRefMore
namespace Go.Proofs.Ytadmhocpnbgegaa
open Go.RowKit

/-- Both maps, beside blocks that stay. -/
structure Ew (w0 : World) (L : List Bx) (W : World) (q N : Nat) (t : Int) (g : Gs) (f : Ws) (p r : Nat) (t2 : Int) (f2 : Ws) : Prop where
  ev : Ev w0 L W q (N : Int) t g f
  rf : Rf W p r N t2 f2
  op : w0.heap.size ≤ p
  or : w0.heap.size ≤ r
  bx : ∀ x ∈ L, x.2.2 ≠ 44 ∧ x.2.2 ≠ 40
section
variable {w0 W W' : World} {L : List Bx} {q N p r : Nat} {t t' t2 t2' : Int} {g g' : Gs} {f f' f2 f2' : Ws}
theorem Ew.up (h : Ew w0 L W q N t g f p r t2 f2) (hb : Below W.heap.size W W') : Ew w0 L W' q N t g f p r t2 f2 := ⟨h.ev.up hb, h.rf.below hb, h.op, h.or, h.bx⟩
theorem Ew.step (h : Ew w0 L W q N t g f p r t2 f2) (hm : Mp W' q (N : Int) t' g' f') (hn : Newer W.heap.size g g') (hf : Fr q g W W') : Ew w0 L W' q N t' g' f' p r t2 f2 :=
  ⟨h.ev.step hm hn hf, ⟨h.rf.blk.fr h.ev.mp.lay hf (by decide) (by decide), h.rf.row.fr h.ev.mp.lay hf (by decide) (by decide)⟩, h.op, h.or, h.bx⟩
theorem Ew.told (h : Ew w0 L W q N t g f p r t2 f2) (hr : Rf W' p r N t2' f2') (hf : F2 p r W W') : Ew w0 L W' q N t g f p r t2' f2' := by
  have hl := h.ev.mp.lay
  refine ⟨⟨⟨hl.of (hf.block q hl.blk.lt (hl.blk.ne h.rf.blk (by decide)) (hl.blk.ne h.rf.row (by decide))) (fun i b hi e => ?_), h.ev.mp.kept, h.ev.mp.st⟩, h.ev.own, h.ev.bel.trans (hf.below h.op h.or h.ev.bel.size), fun x hx => ⟨(h.ev.box x hx).1.f2 h.rf hf (h.bx x hx).1 (h.bx x hx).2, (h.ev.box x hx).2⟩⟩, hr, h.op, h.or, h.bx⟩
  have hb := hl.leaf i b hi e
  exact hf.block b hb.lt (hb.ne h.rf.blk (by decide)) (hb.ne h.rf.row (by decide))
theorem Ew.make (h : Ew w0 L W q N t g f p r t2 f2) (vs : List Value) (ty : TypeId) (h1 : ty ≠ 61) (h2 : ty ≠ 66) (h3 : ty ≠ 44) (h4 : ty ≠ 40) : Ew w0 ((W.heap.size, vs, ty) :: L) (W.alloc (.cells vs.toArray ty)) q N t g f p r t2 f2 :=
  ⟨h.ev.make vs ty h1 h2, h.rf.below (up_alloc (Below.refl _ W) _), h.op, h.or, fun x hx => by
    rcases List.mem_cons.1 hx with rfl | hx
    · exact ⟨h3, h4⟩
    · exact h.bx x hx⟩
theorem Ew.tail {x : Bx} (h : Ew w0 (x :: L) W q N t g f p r t2 f2) : Ew w0 L W q N t g f p r t2 f2 := ⟨h.ev.tail, h.rf, h.op, h.or, fun y hy => h.bx y (List.mem_cons_of_mem _ hy)⟩
end
/-- A call's cells, and the document's stamp. -/
theorem cells_c {W : World} {b : Nat} {x : Cl} (h : Blk W b (clL x) 34) :
    W.cell? ⟨b, 0, none⟩ = some (.bool x.z) ∧ W.cell? ⟨b, 1, none⟩ = some (.int .i64 x.p) ∧ W.cell? ⟨b, 2, none⟩ = some (.int .i64 x.k) ∧ W.cell? ⟨b, 3, none⟩ = some (.int .i64 x.a) ∧
      W.cell? ⟨b, 4, none⟩ = some (.int .i64 x.b) ∧ W.cell? ⟨b, 5, none⟩ = some (.int .i64 x.c) ∧ W.cell? ⟨b, 6, none⟩ = some (.int .i64 x.d) := ⟨h.cell, h.cell, h.cell, h.cell, h.cell, h.cell, h.cell⟩
theorem cells_cs {W : World} {b p r N : Nat} {t : Int} {f : Ws} {x : Cl} (h : Blk W b (clL x) 34) (hr : Rf W p r N t f) :
    W.cell? ⟨b, 0, none⟩ = some (.bool x.z) ∧ W.cell? ⟨b, 1, none⟩ = some (.int .i64 x.p) ∧ W.cell? ⟨b, 2, none⟩ = some (.int .i64 x.k) ∧ W.cell? ⟨b, 3, none⟩ = some (.int .i64 x.a) ∧
      W.cell? ⟨b, 4, none⟩ = some (.int .i64 x.b) ∧ W.cell? ⟨b, 5, none⟩ = some (.int .i64 x.c) ∧ W.cell? ⟨b, 6, none⟩ = some (.int .i64 x.d) ∧ W.cell? ⟨p, 1, none⟩ = some (.int .u64 t) := ⟨h.cell, h.cell, h.cell, h.cell, h.cell, h.cell, h.cell, hr.c1⟩
theorem nt_bd {E t : Int} (h0 : 0 ≤ t) (h1 : t < 1099511627776) : 0 ≤ nt E t ∧ nt E t < 1099511627776 := by
  unfold nt; split
  · exact nx_bd t
  · exact ⟨h0, h1⟩

/-! ### Counting -/
def cj (f : Ws) (v s : Int) (N j : Nat) : Nat := cnt f v s (min (j - 1) N)
theorem cj_succ {f : Ws} {v s : Int} {N j : Nat} : cj f v s N (j + 1) = cj f v s N j + if ((wAt (N : Int) f ((j : Int) - 1) != 0) && (verOf (wAt (N : Int) f ((j : Int) - 1)) == v) && (staOf (wAt (N : Int) f ((j : Int) - 1)) == s)) = true then 1 else 0 := by
  unfold cj
  by_cases h : 1 ≤ j ∧ j - 1 < N
  · have e : (j : Int) - 1 = ((j - 1 : Nat) : Int) := by omega
    rw [e, wAt_in (by omega), show min (j + 1 - 1) N = (j - 1) + 1 by omega, show min (j - 1) N = j - 1 by omega, cnt]
    rfl
  · have e : wAt (N : Int) f ((j : Int) - 1) = 0 := wAt_out (inB_no.2 (by omega))
    rw [e, show min (j + 1 - 1) N = min (j - 1) N by omega]
    rfl
theorem cj_end {f : Ws} {v s : Int} {N : Nat} : cj f v s N (N + 2) = cnt f v s N := by unfold cj; rw [show min (N + 2 - 1) N = N by omega]
end Go.Proofs.Ytadmhocpnbgegaa
