/-
  Calls that came in: words that the claimed proofs use.
-/
import Derived.Test.YtadmhocpnbgegaaAlive
namespace Go.Proofs.Ytadmhocpnbgegaa
open Go.RowKit

/-- A call: is it Clear, from which page on, how many, and an entry. -/
structure Cl where
  z : Bool
  p : Int
  k : Int
  a : Int
  b : Int
  c : Int
  d : Int
def cl (l : List Cl) (i : Nat) : Cl := l.getD i ⟨false, 0, 0, 0, 0, 0, 0⟩
/-- Its cells. -/
structure C7 (w : World) (b o : Nat) (x : Cl) : Prop where
  c0 : w.cell? ⟨b, o, none⟩ = some (.bool x.z)
  c1 : w.cell? ⟨b, o + 1, none⟩ = some (.int .i64 x.p)
  c2 : w.cell? ⟨b, o + 2, none⟩ = some (.int .i64 x.k)
  c3 : w.cell? ⟨b, o + 3, none⟩ = some (.int .i64 x.a)
  c4 : w.cell? ⟨b, o + 4, none⟩ = some (.int .i64 x.b)
  c5 : w.cell? ⟨b, o + 5, none⟩ = some (.int .i64 x.c)
  c6 : w.cell? ⟨b, o + 6, none⟩ = some (.int .i64 x.d)
theorem C7.below {B : Nat} {w w' : World} {b o : Nat} {x : Cl} (h : C7 w b o x) (hb : Below B w w') (hg : b < B) : C7 w' b o x :=
  ⟨(hb.cell (p := ⟨b, o, none⟩) hg).trans h.c0, (hb.cell (p := ⟨b, o + 1, none⟩) hg).trans h.c1, (hb.cell (p := ⟨b, o + 2, none⟩) hg).trans h.c2, (hb.cell (p := ⟨b, o + 3, none⟩) hg).trans h.c3,
   (hb.cell (p := ⟨b, o + 4, none⟩) hg).trans h.c4, (hb.cell (p := ⟨b, o + 5, none⟩) hg).trans h.c5, (hb.cell (p := ⟨b, o + 6, none⟩) hg).trans h.c6⟩
/-- Of their address something is said only where there is one. -/
def CA (B : Nat) (w : World) (A : Option Addr) (l : List Cl) : Prop :=
  0 < l.length → ∃ b o, A = some ⟨b, o, none⟩ ∧ b < B ∧ ∀ i, i < l.length → C7 w b (o + i * 7) (cl l i) ∧ I6 (cl l i).p (cl l i).k (cl l i).a (cl l i).b (cl l i).c (cl l i).d
/-- A call as it lies in a box of its own. -/
def clL (x : Cl) : List Value := [.bool x.z, .int .i64 x.p, .int .i64 x.k, .int .i64 x.a, .int .i64 x.b, .int .i64 x.c, .int .i64 x.d]
theorem blk_c7 {w : World} {b : Nat} {x : Cl} (h : Blk w b (clL x) 34) : C7 w b 0 x := ⟨h.cell, h.cell, h.cell, h.cell, h.cell, h.cell, h.cell⟩
/-- The clone has blocks of its own. -/
theorem clone_stays {W w2 w3 : World} {q qc : Nat} {n t tc : Int} {g gc : Gs} {f fc : Ws} (hm : Lay W q n t g f) (hc : Mp w2 qc n tc gc fc) (ho : Own W.heap.size qc gc) (hf : Fr q g w2 w3) : Mp w3 qc n tc gc fc := by
  have hq := hm.blk.lt
  have hl : ∀ i b, i < 64 → g i = some b → b < W.heap.size := fun i b hi e => (hm.leaf i b hi e).lt
  have o1 := ho.1
  refine ⟨hc.lay.apart hf (by omega) (fun i hi e => ?_) (fun i b hi e => ⟨?_, fun j hj e' => ?_⟩), hc.kept, hc.st⟩
  · have := hl i qc hi e; omega
  · have := ho.2 i b hi e; omega
  · have := ho.2 i b hi e; have := hl j b hj e'; omega
theorem clone_own {w : World} {q : Nat} {n t : Int} {g : Gs} {f : Ws} (h : Mp w q n t g f) :
    Calls Try.prog 20 #[.pointer (some ⟨q, 0, none⟩)] w fun e w' => ∃ qc gc, e = .returned (.pointer (some ⟨qc, 0, none⟩)) ∧ Mp w' qc n t gc f ∧ Own w.heap.size qc gc ∧ Below w.heap.size w w' :=
  (clone_any h).mono fun _ _ ⟨gc, he, hm, ho, hb⟩ => ⟨_, gc, he, hm, ⟨Nat.le_refl _, ho⟩, hb⟩
end Go.Proofs.Ytadmhocpnbgegaa
