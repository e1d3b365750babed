/-
  A call on a map, and every law's first call: contracts that the claimed proofs use.
-/
import Derived.Test.YtadmhocpnbgegaaNew
namespace Go.Proofs.Ytadmhocpnbgegaa
open Go.RowKit

def opE (n : Int) (f : Ws) (cl : Bool) (p k a b c d : Int) : Int := if cl = true then clrE n f p k else setE n p k a b c d
def opF (t : Int) (f : Ws) (cl : Bool) (p k a b c d : Int) : Ws := if cl = true then clrF f p k else setF t f p k a b c d
/-- Numbers that ints hold. -/
structure I6 (p k a b c d : Int) : Prop where
  p : I64 p
  k : I64 k
  a : I64 a
  b : I64 b
  c : I64 c
  d : I64 d
theorem Blk.fr {w w' : World} {q b : Nat} {n t : Int} {g : Gs} {f : Ws} {vs : List Value} {ty : TypeId} (h : Blk w b vs ty) (hm : Lay w q n t g f) (hf : Fr q g w w') (h1 : ty ≠ 61) (h2 : ty ≠ 66) : Blk w' b vs ty :=
  h.of (hf.block b h.lt (h.ne hm.blk h1) (fun i hi e => h.ne (hm.leaf i b hi e) h2 rfl))
section
variable {w : World} {q : Nat} {n t : Int} {g : Gs} {f : Ws}
theorem do_any (cl : Bool) (p k a b c d : Int) (h : Mp w q n t g f) (hi : I6 p k a b c d) :
    Calls Try.prog 12 #[.pointer (some ⟨q, 0, none⟩), .agg #[.bool cl, .int .i64 p, .int .i64 k, .int .i64 a, .int .i64 b, .int .i64 c, .int .i64 d]] w fun e w' =>
      ∃ g', e = .returned (.int .i64 (opE n f cl p k a b c d)) ∧ Mp w' q n (nt (opE n f cl p k a b c d) t) g' (nf (opE n f cl p k a b c d) (opF t f cl p k a b c d) f) ∧ Newer w.heap.size g g' ∧ Fr q g w w' := by
  have B0 := Lib.hid (up_alloc (Below.refl _ w) (.cells #[.bool cl, .int .i64 p, .int .i64 k, .int .i64 a, .int .i64 b, .int .i64 c, .int .i64 d] 34))
  have HM := Lib.hid (h.below B0.out)
  have HI := Lib.hid hi
  clear h hi
  cases cl with
  | true =>
    have e1 : opE n f true p k a b c d = clrE n f p k := rfl
    have e2 : opF t f true p k a b c d = clrF f p k := rfl
    rw [e1, e2]
    clear e1 e2
    go_enter Try.func12, Try.ntmps12
    go_wp2_with fail
    generalize w.alloc (.cells #[.bool true, .int .i64 p, .int .i64 k, .int .i64 a, .int .i64 b, .int .i64 c, .int .i64 d] 34) = W0 at B0 HM ⊢
    refine (clr_any p k HM.out HI.out.p).mono ?_
    rintro e w2 ⟨g', rfl, m2, n2, f2⟩
    have M2 := Lib.hid m2
    have N2 := Lib.hid ((Newer.refl w.heap.size g).trans n2 B0.out.size)
    have F2 := Lib.hid ((Fr.of (q := q) (g := g) B0.out).trans f2 (Newer.refl _ _))
    clear m2 n2 f2
    go_wp2
    go_ret
    exact ⟨g', rfl, M2.out, N2.out, F2.out⟩
  | false =>
    have e1 : opE n f false p k a b c d = setE n p k a b c d := rfl
    have e2 : opF t f false p k a b c d = setF t f p k a b c d := rfl
    rw [e1, e2]
    clear e1 e2
    go_enter Try.func12, Try.ntmps12
    go_wp2_with fail
    generalize w.alloc (.cells #[.bool false, .int .i64 p, .int .i64 k, .int .i64 a, .int .i64 b, .int .i64 c, .int .i64 d] 34) = W0 at B0 HM ⊢
    refine (set_any p k a b c d HM.out HI.out.p HI.out.a HI.out.b HI.out.c HI.out.d).mono ?_
    rintro e w2 ⟨g', rfl, m2, n2, f2⟩
    have M2 := Lib.hid m2
    have N2 := Lib.hid ((Newer.refl w.heap.size g).trans n2 B0.out.size)
    have F2 := Lib.hid ((Fr.of (q := q) (g := g) B0.out).trans f2 (Newer.refl _ _))
    clear m2 n2 f2
    go_wp2
    go_ret
    exact ⟨g', rfl, M2.out, N2.out, F2.out⟩
end

/-! ### The first call -/
def A1 : Ws := setF 0 f0 5 1 5 1 2 3
def A2 : Ws := setF 1 A1 60 100 5 1 2 3
def A3 : Ws := clrF A2 64 64
theorem a1 : setE 200 5 1 5 1 2 3 = 0 := by decide +kernel
theorem a2 : setE 200 60 100 5 1 2 3 = 0 := by decide +kernel
theorem a3 : clrE 200 A2 64 64 = 0 := by decide +kernel
theorem a4 : clrE 200 A3 64 1 = 16 := by decide +kernel
theorem a5 : wAt 200 A1 5 = 16798759 := by decide +kernel
theorem a6 : wAt 200 A3 63 = 33575975 := by decide +kernel
theorem a6v : entV 33575975 = .agg #[.int .i64 5, .int .i64 1, .int .i64 2, .int .i64 3] := rfl
theorem a7 : wAt 200 A3 64 = 0 := by decide +kernel
theorem a7v : entV 0 = .agg #[.int .i64 0, .int .i64 0, .int .i64 0, .int .i64 0] := rfl
theorem a8 : lvs A3 64 = 2 := by decide +kernel
theorem a9 : cnt A3 1 3 (200 : Int).toNat = 37 := by decide +kernel
theorem i_small {n : Int} (h0 : -1 ≤ n) (h1 : n ≤ 4611686018427387904) : I64 n := ⟨by omega, by omega⟩
/-- The map's blocks are new. -/
def Own (B q : Nat) (g : Gs) : Prop := B ≤ q ∧ ∀ i b, i < 64 → g i = some b → B ≤ b
theorem Own.newer {B C q : Nat} {g g' : Gs} (h : Own B q g) (hn : Newer C g g') (hB : B ≤ C) : Own B q g' := ⟨h.1, fun i b hi e => by
  rcases hn i b hi e with e | e
  · exact h.2 i b hi e
  · omega⟩
theorem Own.below {B q : Nat} {g : Gs} {a b : World} (h : Own B q g) (hf : Fr q g a b) (hB : B ≤ a.heap.size) : Below B a b := hf.below h.1 h.2 hB
theorem Own.le {B C q : Nat} {g : Gs} (h : Own C q g) (hB : B ≤ C) : Own B q g := ⟨by have := h.1; omega, fun i b hi e => by have := h.2 i b hi e; omega⟩
theorem own_new (B q : Nat) (h : B ≤ q) : Own B q g0 := ⟨h, fun _ _ _ e => (by cases e)⟩
theorem new_own (n : Int) (w : World) (h0 : 0 ≤ n) (h1 : n ≤ 4096) :
    Calls Try.prog 7 #[.int .i64 n] w fun e w' => ∃ q, e = .returned (.tuple #[.pointer (some ⟨q, 0, none⟩), .int .i64 0]) ∧ Mp w' q n 0 g0 f0 ∧ Own w.heap.size q g0 ∧ Below w.heap.size w w' :=
  (new_yes n w h0 h1).mono fun _ _ ⟨he, hm, hb⟩ => ⟨_, he, hm, own_new _ _ (Nat.le_refl _), hb⟩
abbrev Bx := Nat × List Value × TypeId
/-- A map of its own beside blocks that stay. -/
structure Ev (w0 : World) (L : List Bx) (W : World) (q : Nat) (n t : Int) (g : Gs) (f : Ws) : Prop where
  mp : Mp W q n t g f
  own : Own w0.heap.size q g
  bel : Below w0.heap.size w0 W
  box : ∀ x ∈ L, Blk W x.1 x.2.1 x.2.2 ∧ x.2.2 ≠ 61 ∧ x.2.2 ≠ 66
section
variable {w0 W W' : World} {L : List Bx} {q : Nat} {n t t' : Int} {g g' : Gs} {f f' : Ws}
theorem Ev.up (h : Ev w0 L W q n t g f) (hb : Below W.heap.size W W') : Ev w0 L W' q n t g f :=
  ⟨h.mp.below hb, h.own, up_trans h.bel hb, fun x hx => ⟨(h.box x hx).1.below hb (h.box x hx).1.lt, (h.box x hx).2⟩⟩
theorem Ev.step (h : Ev w0 L W q n t g f) (hm : Mp W' q n t' g' f') (hn : Newer W.heap.size g g') (hf : Fr q g W W') : Ev w0 L W' q n t' g' f' :=
  ⟨hm, h.own.newer hn h.bel.size, h.bel.trans (h.own.below hf h.bel.size), fun x hx => ⟨(h.box x hx).1.fr h.mp.lay hf (h.box x hx).2.1 (h.box x hx).2.2, (h.box x hx).2⟩⟩
theorem Ev.make (h : Ev w0 L W q n t g f) (vs : List Value) (ty : TypeId) (h1 : ty ≠ 61) (h2 : ty ≠ 66) : Ev w0 ((W.heap.size, vs, ty) :: L) (W.alloc (.cells vs.toArray ty)) q n t g f := by
  have hb := up_alloc (Below.refl _ W) (.cells vs.toArray ty)
  refine ⟨h.mp.below hb, h.own, up_trans h.bel hb, fun x hx => ?_⟩
  rcases List.mem_cons.1 hx with rfl | hx
  · exact ⟨heap_alloc_last W _, h1, h2⟩
  · exact ((h.up hb).box x hx)
theorem Ev.head {x : Bx} (h : Ev w0 (x :: L) W q n t g f) : Blk W x.1 x.2.1 x.2.2 := (h.box x (List.mem_cons_self ..)).1
theorem Ev.tail {x : Bx} (h : Ev w0 (x :: L) W q n t g f) : Ev w0 L W q n t g f := ⟨h.mp, h.own, h.bel, fun y hy => h.box y (List.mem_cons_of_mem _ hy)⟩
end
theorem n0 : nt 0 0 = 1 ∧ nt 0 1 = 2 ∧ nt 0 2 = 3 ∧ nt 16 3 = 3 := by decide +kernel
set_option maxRecDepth 100000 in
theorem alive_any (w : World) : Calls Try.prog 6 #[] w fun e w' => e = .returned (.bool true) ∧ Below w.heap.size w w' := by
  go_enter Try.func6, Try.ntmps6
  go_wp2_with fail
  refine (new_own 200 w (by omega) (by omega)).mono ?_
  rintro e w1 ⟨q, rfl, m1, o1, b1⟩
  have E2 : Hid (Ev w _ (w1.alloc (.cells #[.int .i64 5, .int .i64 1, .int .i64 2, .int .i64 3] 32)) q 200 0 g0 f0) := Ev.make (L := []) ⟨m1, o1, b1, fun _ h => (by cases h)⟩ [.int .i64 5, .int .i64 1, .int .i64 2, .int .i64 3] 32 (by decide) (by decide)
  clear m1 o1 b1
  go_wp2_with fail
  generalize w1.heap.size = x at E2 ⊢
  generalize w1.alloc (.cells #[.int .i64 5, .int .i64 1, .int .i64 2, .int .i64 3] 32) = w2 at E2 ⊢
  refine (set_any 5 1 5 1 2 3 E2.out.mp (i_small (by omega) (by omega)) (i_small (by omega) (by omega)) (i_small (by omega) (by omega)) (i_small (by omega) (by omega)) (i_small (by omega) (by omega))).mono ?_
  rw [a1, n0.1]
  rintro e w3 ⟨g3, rfl, m3, n3, f3⟩
  have E3 : Hid (Ev w _ w3 q 200 1 g3 A1) := E2.out.step m3 n3 f3
  clear m3 n3 f3 E2
  go_wp2_with fail
  refine (word_any 5 E3.out.mp.lay E3.out.mp.st (i_small (by omega) (by omega))).mono ?_
  rw [a5]
  rintro e w4 ⟨rfl, rfl⟩
  have c0 : w3.cell? ⟨x, 0, none⟩ = some (.int .i64 5) := E3.out.head.cell
  have c1 : w3.cell? ⟨x, 1, none⟩ = some (.int .i64 1) := E3.out.head.cell
  have c2 : w3.cell? ⟨x, 2, none⟩ = some (.int .i64 2) := E3.out.head.cell
  have c3 : w3.cell? ⟨x, 3, none⟩ = some (.int .i64 3) := E3.out.head.cell
  go_wp2_with fail
  refine (set_any 60 100 5 1 2 3 E3.out.mp (i_small (by omega) (by omega)) (i_small (by omega) (by omega)) (i_small (by omega) (by omega)) (i_small (by omega) (by omega)) (i_small (by omega) (by omega))).mono ?_
  rw [a2, n0.2.1]
  rintro e w4 ⟨g4, rfl, m4, n4, f4⟩
  have E4 : Hid (Ev w _ w4 q 200 2 g4 A2) := E3.out.step m4 n4 f4
  clear m4 n4 f4 E3 c0 c1 c2 c3
  go_wp2_with fail
  refine (clr_any 64 64 E4.out.mp (i_small (by omega) (by omega))).mono ?_
  rw [a3, n0.2.2.1]
  rintro e w5 ⟨g5, rfl, m5, n5, f5⟩
  have E5 : Hid (Ev w _ w5 q 200 3 g5 A3) := E4.out.step m5 n5 f5
  clear m5 n5 f5 E4
  go_wp2_with fail
  refine (clr_any 64 1 E5.out.mp (i_small (by omega) (by omega))).mono ?_
  rw [a4, n0.2.2.2]
  rintro e w6 ⟨g6, rfl, m6, n6, f6⟩
  have E6 : Hid (Ev w _ w6 q 200 3 g6 A3) := E5.out.step m6 n6 f6
  clear m6 n6 f6 E5
  go_wp2_with fail
  refine (get_any 63 E6.out.mp.lay E6.out.mp.st (i_small (by omega) (by omega))).mono ?_
  rw [a6, a6v]
  rintro e w7 ⟨rfl, b7⟩
  have E7 : Hid (Ev w _ (w7.alloc (.cells #[.int .i64 5, .int .i64 1, .int .i64 2, .int .i64 3] 32)) q 200 3 g6 A3) := (E6.out.up b7).make [.int .i64 5, .int .i64 1, .int .i64 2, .int .i64 3] 32 (by decide) (by decide)
  clear b7 E6
  go_wp2_with fail
  generalize w7.heap.size = y at E7 ⊢
  generalize w7.alloc (.cells #[.int .i64 5, .int .i64 1, .int .i64 2, .int .i64 3] 32) = w8 at E7 ⊢
  refine (get_any 64 E7.out.mp.lay E7.out.mp.st (i_small (by omega) (by omega))).mono ?_
  rw [a7, a7v]
  rintro e w9 ⟨rfl, b9⟩
  have E9 : Hid (Ev w _ (w9.alloc (.cells #[.int .i64 0, .int .i64 0, .int .i64 0, .int .i64 0] 32)) q 200 3 g6 A3) := (E7.out.up b9).make [.int .i64 0, .int .i64 0, .int .i64 0, .int .i64 0] 32 (by decide) (by decide)
  clear b9 E7
  generalize w9.heap.size = z at E9
  have c0 : (w9.alloc (.cells #[.int .i64 0, .int .i64 0, .int .i64 0, .int .i64 0] 32)).cell? ⟨x, 0, none⟩ = some (.int .i64 5) := E9.out.tail.tail.head.cell
  have c1 : (w9.alloc (.cells #[.int .i64 0, .int .i64 0, .int .i64 0, .int .i64 0] 32)).cell? ⟨x, 1, none⟩ = some (.int .i64 1) := E9.out.tail.tail.head.cell
  have c2 : (w9.alloc (.cells #[.int .i64 0, .int .i64 0, .int .i64 0, .int .i64 0] 32)).cell? ⟨x, 2, none⟩ = some (.int .i64 2) := E9.out.tail.tail.head.cell
  have c3 : (w9.alloc (.cells #[.int .i64 0, .int .i64 0, .int .i64 0, .int .i64 0] 32)).cell? ⟨x, 3, none⟩ = some (.int .i64 3) := E9.out.tail.tail.head.cell
  have y0 : (w9.alloc (.cells #[.int .i64 0, .int .i64 0, .int .i64 0, .int .i64 0] 32)).cell? ⟨y, 0, none⟩ = some (.int .i64 5) := E9.out.tail.head.cell
  have y1 : (w9.alloc (.cells #[.int .i64 0, .int .i64 0, .int .i64 0, .int .i64 0] 32)).cell? ⟨y, 1, none⟩ = some (.int .i64 1) := E9.out.tail.head.cell
  have y2 : (w9.alloc (.cells #[.int .i64 0, .int .i64 0, .int .i64 0, .int .i64 0] 32)).cell? ⟨y, 2, none⟩ = some (.int .i64 2) := E9.out.tail.head.cell
  have y3 : (w9.alloc (.cells #[.int .i64 0, .int .i64 0, .int .i64 0, .int .i64 0] 32)).cell? ⟨y, 3, none⟩ = some (.int .i64 3) := E9.out.tail.head.cell
  go_wp2_with fail
  refine (stamp_any E9.out.mp.lay).mono ?_
  rintro e w10 ⟨rfl, rfl⟩
  go_wp2_with fail
  refine (leaves_any E9.out.mp.lay E9.out.mp.kept).mono ?_
  rw [a8]
  rintro e w10 ⟨rfl, rfl⟩
  go_wp2_with fail
  refine (count_any 1 3 E9.out.mp.lay E9.out.mp.st).mono ?_
  rw [a9]
  rintro e w10 ⟨rfl, b10⟩
  have E10 := Lib.hid (E9.out.up b10)
  clear b10 E9 c0 c1 c2 c3 y0 y1 y2 y3
  go_wp2
  go_ret
  exact ⟨rfl, E10.out.bel⟩
end Go.Proofs.Ytadmhocpnbgegaa
