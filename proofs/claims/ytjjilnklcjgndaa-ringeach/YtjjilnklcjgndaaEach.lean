/-
  The walk of the statement on iterators and clones.
-/
import Derived.Test.YtjjilnklcjgndaaIter
import Derived.StillTailTactics
namespace Go.Proofs.Ytjjilnklcjgndaa
open Go.RowKit Go.Shelf

theorem f5_results : Try.f5.results = #[.cell 10 4] := by kernel_rfl
theorem results_bool {tmps : Array Value} {B : Nat} {z : Bool} {w : World} (ht : tmps.getD 10 undef = .pointer (some ⟨B, 0, none⟩)) (hc : w.cell? ⟨B, 0, none⟩ = some (.bool z)) :
    (results Try.f5 tmps).run Try.prog w = .ok (.bool z) w := by
  have ht' : tmps[10]?.getD undef = .pointer (some ⟨B, 0, none⟩) := by simpa using ht
  simp only [results, f5_results]
  simp [Sem.run_bind, Result.andThen]
  go_simp
theorem box_below {W W' : World} {B : Nat} {t : TypeId} {v : Value} (h : Boxed W B t v) (hb : Below W.heap.size W W') : Boxed W' B t v := (hb.block B h.lt).trans h
/-- The boxes that the law makes first: how many items, more calls, the answer. -/
structure Boxes (w : World) (n : Int) (v2 : Value) (z : Bool) (W : World) : Prop where
  a : Boxed W w.heap.size 3 (.int .i64 n)
  b : Boxed W (w.heap.size + 1) 22 v2
  c : Boxed W (w.heap.size + 1 + 1) 4 (.bool z)
  bel : Below w.heap.size w W
  sz : w.heap.size + 3 ≤ W.heap.size
theorem Boxes.below {w W W' : World} {n : Int} {v2 : Value} {z : Bool} (h : Boxes w n v2 z W) (hb : Below W.heap.size W W') : Boxes w n v2 z W' := ⟨box_below h.a hb, box_below h.b hb, box_below h.c hb, up_trans h.bel hb, Nat.le_trans h.sz hb.size⟩
theorem Boxes.made (w : World) (n : Int) (A2 : Option Addr) (N2 c2 : Nat) : Boxes w n (.slice A2 N2 c2) false (((w.alloc (.cells #[.int .i64 n] 3)).alloc (.cells #[.slice A2 N2 c2] 22)).alloc (.cells #[.bool false] 4)) := by
  have s1 : (w.alloc (.cells #[.int .i64 n] 3)).heap.size = w.heap.size + 1 := World.size_alloc ..
  have s2 : ((w.alloc (.cells #[.int .i64 n] 3)).alloc (.cells #[.slice A2 N2 c2] 22)).heap.size = w.heap.size + 1 + 1 := by rw [World.size_alloc, s1]
  refine ⟨((Boxed.new w 3 _).alloc _).alloc _, ?_, ?_, up_alloc (up_alloc (up_alloc (Below.refl _ _) _) _) _, by rw [World.size_alloc, s2]; omega⟩
  · have := (Boxed.new (w.alloc (.cells #[.int .i64 n] 3)) 22 (.slice A2 N2 c2)).alloc (.cells #[.bool false] 4)
    rwa [s1] at this
  · have := Boxed.new ((w.alloc (.cells #[.int .i64 n] 3)).alloc (.cells #[.slice A2 N2 c2] 22)) 4 (.bool false)
    rwa [s2] at this
theorem Boxes.set {w W : World} {n : Int} {v2 : Value} {z : Bool} (h : Boxes w n v2 z W) (z' : Bool) : Below w.heap.size w (W.setCell ⟨w.heap.size + 1 + 1, 0, none⟩ (.bool z')) := h.bel.setCell (p := ⟨w.heap.size + 1 + 1, 0, none⟩) (by show w.heap.size ≤ w.heap.size + 1 + 1; omega) _
set_option maxRecDepth 100000 in
set_option maxHeartbeats 2000000 in
theorem each_great (n m i : Int) (A A2 : Option Addr) (N c N2 c2 : Nat) (w : World) (h : 100 < n ∨ 20 < m ∨ 200 < N ∨ 200 < N2) :
    Calls Try.prog 5 #[.int .i64 n, .int .i64 m, .int .i64 i, .slice A N c, .slice A2 N2 c2] w fun e w' => e = .returned (.bool true) ∧ Below w.heap.size w w' := by
  have HG : Hid (∀ W, Calls Try.prog 7 #[.int .i64 n, .int .i64 m, .slice A N c] W fun e w' => e = .returned (.bool (decide (100 < n ∨ 20 < m ∨ 200 < N))) ∧ W = w') := fun W => great_any n m A N c W
  have HX0 := Lib.hid (Boxes.made w n A2 N2 c2)
  by_cases h1 : 100 < n ∨ 20 < m ∨ 200 < N
  · have hd : decide (100 < n ∨ 20 < m ∨ 200 < N) = true := by simpa using h1
    rw [hd] at HG
    clear hd h h1
    go_enter Try.func5, Try.ntmps5
    go_wp2_with fail
    refine (alive_any _).mono ?_
    rintro e w1 ⟨rfl, b1⟩
    have HX1 := Lib.hid (HX0.out.below b1)
    have q1 := HX1.out.a.cell
    have q2 := HX1.out.b.cell
    have q3 := HX1.out.c.cell
    have f3 := HX1.out.c.frozen
    clear b1 HX0
    go_wp2_with (go_at_call 7; refine (HG.out _).mono ?_; rintro e w' ⟨rfl, rfl⟩)
    refine bodyPost_ret (results_bool rfl (HX1.out.c.set (.bool true)).cell) rfl ?_
    exact ⟨rfl, HX1.out.set true⟩
  · have hd : decide (100 < n ∨ 20 < m ∨ 200 < N) = false := by simpa using h1
    have hd2 : decide ((200 : Int) < (N2 : Int)) = true := by simp; omega
    rw [hd] at HG
    clear hd h h1
    go_enter Try.func5, Try.ntmps5
    go_wp2_with fail
    refine (alive_any _).mono ?_
    rintro e w1 ⟨rfl, b1⟩
    have HX1 := Lib.hid (HX0.out.below b1)
    have q1 := HX1.out.a.cell
    have q2 := HX1.out.b.cell
    have q3 := HX1.out.c.cell
    have f3 := HX1.out.c.frozen
    clear b1 HX0
    go_wp2_with (go_at_call 7; refine (HG.out _).mono ?_; rintro e w' ⟨rfl, rfl⟩)
    refine bodyPost_ret (results_bool rfl (HX1.out.c.set (.bool true)).cell) rfl ?_
    exact ⟨rfl, HX1.out.set true⟩
set_option maxRecDepth 100000 in
set_option maxHeartbeats 2000000 in
theorem each_no (n m i : Int) (A A2 : Option Addr) (N c N2 c2 : Nat) (w : World) (h : ¬ (100 < n ∨ 20 < m ∨ 200 < N)) (h3 : N2 ≤ 200) (h2 : n < 0 ∨ m < 1) :
    Calls Try.prog 5 #[.int .i64 n, .int .i64 m, .int .i64 i, .slice A N c, .slice A2 N2 c2] w fun e w' => e = .returned (.bool true) ∧ Below w.heap.size w w' := by
  have hd : decide (100 < n ∨ 20 < m ∨ 200 < N) = false := by simpa using h
  have HG : Hid (∀ W, Calls Try.prog 7 #[.int .i64 n, .int .i64 m, .slice A N c] W fun e w' => e = .returned (.bool false) ∧ W = w') := fun W => by
    have := great_any n m A N c W; rwa [hd] at this
  have HNew := Lib.hid (fun W => new_no n m W (by omega))
  have HRNew := Lib.hid (fun W => rnew_no n m W (by omega))
  have HX0 := Lib.hid (Boxes.made w n A2 N2 c2)
  have hd2 : decide ((200 : Int) < (N2 : Int)) = false := by simp; omega
  clear hd h h2
  go_enter Try.func5, Try.ntmps5
  go_wp2_with fail
  refine (alive_any _).mono ?_
  rintro e w1 ⟨rfl, b1⟩
  have HX1 := Lib.hid (HX0.out.below b1)
  have q1 := HX1.out.a.cell
  have q2 := HX1.out.b.cell
  clear b1 HX0
  go_wp2_with fail
  refine (HG.out _).mono ?_; rintro e w' ⟨rfl, rfl⟩
  go_wp2_with fail
  refine (HNew.out _).mono ?_; rintro e w' ⟨rfl, rfl⟩
  have hal : Below w1.heap.size w1 (w1.alloc (.cells #[.pointer none] 25)) := up_alloc (Below.refl _ _) _
  have HX2 := Lib.hid (HX1.out.below hal)
  have r1 := HX2.out.a.cell
  have r2 := HX2.out.b.cell
  have r3 := (Boxed.new w1 25 (.pointer none)).cell
  clear q1 q2 hal
  go_wp2_with fail
  refine (HRNew.out _).mono ?_; rintro e w' ⟨rfl, rfl⟩
  have hal2 : Below (w1.alloc (.cells #[.pointer none] 25)).heap.size (w1.alloc (.cells #[.pointer none] 25)) ((w1.alloc (.cells #[.pointer none] 25)).alloc (.cells #[.pointer none] 29)) := up_alloc (Below.refl _ _) _
  have HX3 := Lib.hid (HX2.out.below hal2)
  have t3 := ((Boxed.new w1 25 (.pointer none)).alloc (.cells #[.pointer none] 29)).cell
  have t4 := HX3.out.c.cell
  have t5 := HX3.out.c.frozen
  clear r1 r2 r3 hal2
  go_wp2_with fail
  refine bodyPost_ret (results_bool rfl (HX3.out.c.set (.bool true)).cell) rfl ?_
  exact ⟨rfl, HX3.out.set true⟩
/-- All that the law holds while it tells calls. -/
structure Env (w : World) (n : Int) (v2 : Value) (p : Pl) (g Br Bs : Nat) (L : Nat → List Nat) (W : World) : Prop where
  both : Both W p g L
  boxes : Boxes w n v2 false W
  r : Boxed W Br 25 (.pointer (some ⟨p.q, 0, none⟩))
  s : Boxed W Bs 29 (.pointer (some ⟨g + 1, 0, none⟩))
  k1 : w.heap.size + 3 ≤ p.lo
  k2 : p.hi ≤ Br
  k3 : Br < g
  k4 : g + 2 ≤ Bs
theorem Env.below {w W W' : World} {n : Int} {v2 : Value} {p : Pl} {g Br Bs : Nat} {L : Nat → List Nat} (h : Env w n v2 p g Br Bs L W) (hb : Below W.heap.size W W') : Env w n v2 p g Br Bs L W' :=
  ⟨h.both.below hb, h.boxes.below hb, box_below h.r hb, box_below h.s hb, h.k1, h.k2, h.k3, h.k4⟩
theorem Env.told {w W W' : World} {n : Int} {v2 : Value} {p : Pl} {g Br Bs : Nat} {L : Nat → List Nat} {e : Ending} (h : Env w n v2 p g Br Bs L W) (ht : Told p g W e W') : ∃ L', Env w n v2 p g Br Bs L' W' := by
  obtain ⟨_, ⟨L', hb⟩, hc, h2, _⟩ := ht
  have hlh : p.lo ≤ p.hi := by have := h.both.ring.ok.q1; omega
  have a1 := h.k1
  have a2 := h.k2
  have a3 := h.k3
  have a4 := h.k4
  have keep : ∀ k, k < W.heap.size → k < p.lo ∨ p.hi ≤ k → k ≠ g → W'.heap[k]? = W.heap[k]? := h2
  refine ⟨L', hb, ⟨?_, ?_, ?_, hc.on h.boxes.bel (by omega) (Nat.le_refl _), Nat.le_trans h.boxes.sz hc.size⟩, ?_, ?_, a1, a2, a3, a4⟩
  · exact (keep _ h.boxes.a.lt (by omega) (by omega)).trans h.boxes.a
  · exact (keep _ h.boxes.b.lt (by omega) (by omega)).trans h.boxes.b
  · exact (keep _ h.boxes.c.lt (by omega) (by omega)).trans h.boxes.c
  · exact (keep _ h.r.lt (by omega) (by omega)).trans h.r
  · exact (keep _ h.s.lt (by omega) (by omega)).trans h.s
/-- Whatever is cells lies as it lay. -/
structure KeepC (W W' : World) : Prop where
  os : W'.os = W.os
  tape : W'.tape = W.tape
  output : W'.output = W.output
  size : W.heap.size ≤ W'.heap.size
  same : ∀ (b : Nat) (cs : Array Value) (t : TypeId) (fr : Nat × Nat), W.heap[b]? = some (.cells cs t fr) → W'.heap[b]? = W.heap[b]?
theorem KeepC.of {W W' : World} {B : Nat} {row : Option Nat} (hg : W.grownBy W' row) (hr : ∀ r, row = some r → B ≤ r ∧ ∃ o : Obj, W.heap[r]? = some o ∧ o.isCells = false) : KeepC W W' := by
  refine ⟨hg.os, hg.tape, hg.output, hg.size, fun b cs t fr hb => hg.block b (Array.getElem?_eq_some_iff.1 hb).1 (fun e => ?_)⟩
  obtain ⟨_, o, ho, hc⟩ := hr b e.symm
  rw [hb] at ho; cases ho; cases hc
theorem KeepC.cell {W W' : World} (h : KeepC W W') {b i : Nat} {v : Value} (hc : W.cell? ⟨b, i, none⟩ = some v) : W'.cell? ⟨b, i, none⟩ = some v := by
  obtain ⟨cs, t, fr, hb⟩ := cells_of hc
  exact (cell_same (h.same b cs t fr hb)).trans hc
theorem KeepC.blk {W W' : World} (h : KeepC W W') {b : Nat} {vs : List Value} {t : TypeId} (hb : Blk W b vs t) : Blk W' b vs t := hb.of (h.same b _ _ _ hb)
theorem KeepC.row {W W' : World} (h : KeepC W W') {b n : Nat} {f : Nat → Int} (hb : Row W b n f) : Row W' b n f := by
  obtain ⟨vs, hb, hv⟩ := hb
  exact ⟨vs, h.blk hb, hv⟩
theorem KeepC.ring {W W' : World} (h : KeepC W W') {p : Pl} {L : Nat → List Nat} (hr : Ring W p L) : Ring W' p L := by
  obtain ⟨inn, cs, nx, pv, hm, hf⟩ := hr
  exact ⟨inn, cs, nx, pv, ⟨hm.ok, Nat.le_trans hm.sz h.size, h.cell hm.s0, h.cell hm.s1, h.cell hm.s2, h.cell hm.s3, h.row hm.r0, h.row hm.r1, h.row hm.r2, h.row hm.r3⟩, hf⟩
theorem KeepC.sl {W W' : World} (h : KeepC W W') {lo : Nat} {v : Value} {xs : List Nat} (hs : SL W lo v xs) : SL W' lo v xs := by
  obtain ⟨A, c, e, h1, h2, h3, h4⟩ := hs
  refine ⟨A, c, e, h1, h2, h3, fun hp => ?_⟩
  obtain ⟨b, e, h5, h6, h7⟩ := h4 hp
  exact ⟨b, e, h5, Nat.lt_of_lt_of_le h6 h.size, fun j hj => h.cell (h7 j hj)⟩
theorem KeepC.ref {W W' : World} (h : KeepC W W') {g n m : Nat} {L : Nat → List Nat} (hr : Ref W g n m L) : Ref W' g n m L := by
  obtain ⟨sz, c0, c1, vs, hb, hv⟩ := hr
  refine ⟨Nat.le_trans sz h.size, h.cell c0, h.cell c1, vs, h.blk hb, fun i hi => ?_⟩
  obtain ⟨v, hv, hl⟩ := hv i hi
  exact ⟨v, hv, h.sl hl⟩
theorem KeepC.box {W W' : World} (h : KeepC W W') {B : Nat} {t : TypeId} {v : Value} (hb : Boxed W B t v) : Boxed W' B t v := (h.same B _ _ _ hb).trans hb
theorem KeepC.ia {W W' : World} (h : KeepC W W') {N : Nat} {A : Option Addr} {xs : List Nat} (hb : IA N W A xs) : IA N W' A xs := fun hp => by
  obtain ⟨b, o, e, hl, hc⟩ := hb hp
  exact ⟨b, o, e, hl, fun j hj => h.cell (hc j hj)⟩
end Go.Proofs.Ytjjilnklcjgndaa
