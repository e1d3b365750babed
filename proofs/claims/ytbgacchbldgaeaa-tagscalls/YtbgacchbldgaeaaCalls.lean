/-
  The walk of the statement on calls.
-/
import Derived.Test.YtbgacchbldgaeaaMoves
namespace Go.Proofs.Ytbgacchbldgaeaa
open Go.RowKit Go.Maps

/-- Two boxes of a law's parameters. -/
structure Bx2 (B : Nat) (V : World) (p s k z : Int) : Prop where
  a : Blk V B [.int .i64 p, .int .i64 s] 24
  b : Blk V (B + 1) [.int .i64 k, .int .i64 z] 26
section
variable {B : Nat} {V V' : World} {p s k z : Int}
theorem Bx2.below (h : Bx2 B V p s k z) (hb : Below V.heap.size V V') : Bx2 B V' p s k z := ⟨h.a.below hb, h.b.below hb⟩
theorem Bx2.fr {b P : Nat} (h : Bx2 B V p s k z) (hf : Fr b P V V') (h1 : B + 2 ≤ b) (h2 : B + 2 ≤ P) : Bx2 B V' p s k z :=
  ⟨h.a.of (hf.block _ h.a.lt (by omega) (by omega)), h.b.of (hf.block _ h.b.lt (by omega) (by omega))⟩
theorem Bx2.cells (h : Bx2 B V p s k z) : V.cell? ⟨B, 0, none⟩ = some (.int .i64 p) ∧ V.cell? ⟨B, 1, none⟩ = some (.int .i64 s) ∧ V.cell? ⟨B + 1, 0, none⟩ = some (.int .i64 k) ∧ V.cell? ⟨B + 1, 1, none⟩ = some (.int .i64 z) := ⟨h.a.cell, h.a.cell, h.b.cell, h.b.cell⟩
end
theorem Bx2.made (w : World) (p s k z : Int) : Bx2 w.heap.size ((w.alloc (.cells #[.int .i64 p, .int .i64 s] 24)).alloc (.cells #[.int .i64 k, .int .i64 z] 26)) p s k z := by
  have up : ∀ (V : World) (o : Obj), Below V.heap.size V (V.alloc o) := fun V o => up_alloc (Below.refl _ _) o
  refine ⟨(Blk.new w [.int .i64 p, .int .i64 s] 24).below (up _ _), ?_⟩
  have := Blk.new (w.alloc (.cells #[.int .i64 p, .int .i64 s] 24)) [.int .i64 k, .int .i64 z] 26
  rwa [World.size_alloc] at this
/-- What the law's first loop keeps. -/
structure Cv (w V : World) (q b P : Nat) (L : List Tr) (p s k z : Int) : Prop where
  bo : Bo V q b P L
  bx : Bx2 w.heap.size V p s k z
  bel : Below w.heap.size w V
  kb : w.heap.size + 2 ≤ b
  kP : w.heap.size + 2 ≤ P
section
variable {w V V' : World} {q b P : Nat} {L L' : List Tr} {p s k z : Int}
theorem Cv.below (h : Cv w V q b P L p s k z) (hb : Below V.heap.size V V') : Cv w V' q b P L p s k z := ⟨h.bo.below hb, h.bx.below hb, up_trans h.bel hb, h.kb, h.kP⟩
theorem Cv.done (h : Cv w V q b P L p s k z) (hb : Bo V' q b P L') (hf : Fr b P V V') : Cv w V' q b P L' p s k z :=
  ⟨hb, h.bx.fr hf h.kb h.kP, h.bel.trans (hf.below (by have := h.kb; omega) (by have := h.kP; omega) h.bel.size), h.kb, h.kP⟩
end
/-! ### A row that grows beside them -/
section
variable {W V : World} {g0 : Nat}
theorem cell_e {g i : Nat} {u : Value} (h : W.cell? ⟨g, i, none⟩ = some u) (he : Blk W g0 [] 3) (hf : Fr g0 g0 W V) : V.cell? ⟨g, i, none⟩ = some u := by
  have hne : g ≠ g0 := fun e => by cases e; rw [he.cell] at h; simp at h
  exact (cell_same (hf.block g (World.block_lt_of_cell? W _ h) hne hne)).trans h
theorem blk_e {g : Nat} {vs : List Value} {t : TypeId} (h : Blk W g vs t) (ht : t ≠ 3) (he : Blk W g0 [] 3) (hf : Fr g0 g0 W V) : Blk V g vs t := by
  have hne : g ≠ g0 := fun e => by unfold Blk at h he; cases e; rw [h] at he; cases he; exact ht rfl
  exact h.of (hf.block g h.lt hne hne)
theorem Tg.e {q b : Nat} {L : List Tr} (h : Tg W q b L) (he : Blk W g0 [] 3) (hf : Fr g0 g0 W V) : Tg V q b L := by
  obtain ⟨es, c, ho⟩ := h.mp.obj
  unfold Blk at he
  have h1 : q ≠ g0 := fun e => by have h2 := h.blk; unfold Blk at h2; cases e; rw [he] at h2; cases h2
  have h2 : b ≠ g0 := fun e => by cases e; rw [ho] at he; cases he
  exact h.of (hf.block q h.blk.lt h1 h1) (hf.block b h.mp.lt h2 h2)
theorem Rf.e {P : Nat} {v : Value} {L : List Tr} (h : Rf W P v L) (he : Blk W g0 [] 3) (hf : Fr g0 g0 W V) : Rf V P v L := by
  refine ⟨blk_e h.blk (by decide) he hf, own_of h.own fun j hj => ?_⟩
  obtain ⟨cur, hc⟩ := own_cells h.own hj
  have hne : j ≠ g0 := fun e => by unfold Blk at he; cases e; rw [hc] at he; cases he
  exact hf.block j (Array.getElem?_eq_some_iff.1 hc).1 hne hne
theorem At.e {A : Option Addr} {xs : List Value} (h : At W.heap.size W A xs) (he : Blk W g0 [] 3) (hf : Fr g0 g0 W V) : At W.heap.size V A xs := fun hp => by
  obtain ⟨b, o, e, hb, hc⟩ := h hp
  exact ⟨b, o, e, hb, fun j v hj => cell_e (hc j v hj) he hf⟩
end
theorem Fr.more {W V V' : World} {g0 g : Nat} (h : Fr g0 g0 W V) (k : V.grownBy V' (some g)) (hg : g = g0 ∨ W.heap.size ≤ g) : Fr g0 g0 W V' :=
  ⟨k.os.trans h.os, k.tape.trans h.tape, k.output.trans h.output, Nat.le_trans h.size k.size, fun i hi h1 h2 => (k.block i (Nat.lt_of_lt_of_le hi h.size) (by simp; omega)).trans (h.block i hi h1 h2)⟩
/-- All that the law's second loop reads. -/
structure Cx (w V : World) (q b P : Nat) (v : Value) (L : List Tr) (p s k z : Int) (Al : Option Addr) (y : Nat) (Ky Zy : Int) : Prop where
  tg : Tg V q b L
  rf : Rf V P v L
  bx : Bx2 w.heap.size V p s k z
  bel : Below w.heap.size w V
  ls : At V.heap.size V Al (flat ((ofW L k).map plc))
  yb : Blk V y [.int .i64 Ky, .int .i64 Zy] 26
section
variable {w V V' : World} {q b P : Nat} {v : Value} {L : List Tr} {p s k z : Int} {Al : Option Addr} {y : Nat} {Ky Zy : Int}
theorem Cx.below (h : Cx w V q b P v L p s k z Al y Ky Zy) (hb : Below V.heap.size V V') : Cx w V' q b P v L p s k z Al y Ky Zy := ⟨h.tg.below hb, h.rf.below hb, h.bx.below hb, up_trans h.bel hb, h.ls.up hb, h.yb.below hb⟩
theorem Cx.e {g0 : Nat} (h : Cx w V q b P v L p s k z Al y Ky Zy) (he : Blk V g0 [] 3) (hf : Fr g0 g0 V V') (h0 : w.heap.size ≤ g0) : Cx w V' q b P v L p s k z Al y Ky Zy :=
  ⟨h.tg.e he hf, h.rf.e he hf, ⟨blk_e h.bx.a (by decide) he hf, blk_e h.bx.b (by decide) he hf⟩, h.bel.trans (hf.below h0 h0 h.bel.size), (h.ls.e he hf).more hf.size, blk_e h.yb (by decide) he hf⟩
end
theorem pl_get : ∀ (ps : List (Int × Int)) (t : Nat) (h : t < ps.length), (flat ps)[t * 2]? = some (.int .i64 ps[t].1) ∧ (flat ps)[t * 2 + 1]? = some (.int .i64 ps[t].2)
  | [], t, h => by simp at h
  | a :: l, 0, _ => ⟨rfl, rfl⟩
  | a :: l, t + 1, h => by
    have e : flat (a :: l) = .int .i64 a.1 :: .int .i64 a.2 :: flat l := rfl
    have hl : t < l.length := by simp at h; omega
    obtain ⟨h1, h2⟩ := pl_get l t hl
    rw [e, show (t + 1) * 2 = t * 2 + 1 + 1 by omega, List.getElem?_cons_succ, List.getElem?_cons_succ, List.getElem?_cons_succ, List.getElem?_cons_succ]
    exact ⟨by rw [h1]; rfl, by rw [h2]; rfl⟩
theorem at_pl {B : Nat} {w : World} {A : Option Addr} {rs : List Tr} (h : At B w A (flat (rs.map plc))) {t : Nat} (ht : t < rs.length) :
    ∃ b o, A = some ⟨b, o, none⟩ ∧ b < B ∧ w.cell? ⟨b, o + t * 2, none⟩ = some (.int .i64 rs[t].p) ∧ w.cell? ⟨b, o + t * 2 + 1, none⟩ = some (.int .i64 rs[t].s) := by
  obtain ⟨b, o, e, hb, hc⟩ := h (by rw [flat_len, List.length_map]; omega)
  obtain ⟨h1, h2⟩ := pl_get (rs.map plc) t (by rw [List.length_map]; exact ht)
  rw [List.getElem_map] at h1 h2
  exact ⟨b, o, e, hb, hc _ _ h1, by have := hc _ _ h2; rwa [← Nat.add_assoc] at this⟩
/-- The next row of a worker stands in the worker's list where it should. -/
theorem of_next {L : List Tr} {k : Int} {j : Nat} (hj : j < L.length) (hk : L[j].k = k) : ∃ h : (ofW (L.take j) k).length < (ofW L k).length, (ofW L k)[(ofW (L.take j) k).length] = L[j] := by
  have e : ofW L k = ofW (L.take j) k ++ L[j] :: ofW (L.drop (j + 1)) k := by
    have h1 : L = L.take j ++ L[j] :: L.drop (j + 1) := by rw [← List.drop_eq_getElem_cons hj, List.take_append_drop]
    unfold ofW
    conv => lhs; rw [h1]
    rw [List.filter_append, List.filter_cons_of_pos (by simpa using hk)]
  have hl : (ofW (L.take j) k).length < (ofW L k).length := by rw [e]; simp
  refine ⟨hl, ?_⟩
  have := List.getElem_of_eq e hl
  rw [this, List.getElem_append_right (by omega)]
  simp
theorem in_snoc (A : List Tr) (x : Tr) (p : Int) : (inP (A ++ [x]) p).map (·.s) = (inP A p).map (·.s) ++ (if x.p == p then [x.s] else []) := by
  unfold inP
  rw [List.filter_append, List.map_append]
  cases h : x.p == p <;> simp [h]
/-- A region that draws its order, whose operations read what is the same in every world of a class, and whose calls leave worlds of it. -/
theorem region_in {id : Nat} {Q : Exit → Act → World → Prop} {a : Act} {w : World} {l : List Oper} (S : World → Prop) (hm : Try.prog.follows .mixedOrders = true) (hB : Region.lexB .any l.toArray = true) (hS : S w.drew)
    (h : ∀ (ι : Type) (_ : Nonempty ι) (f : ι → World), (∀ n, S (f n)) → (∀ W, S W → ∃ n, W = f n) → wpQuiet Try.prog l.toArray (fun w' => ∃ n, w' = f n) (fun a' => ∀ w', (∃ n, w' = f n) → Q .normal a' w') l a) :
    (Code.region id l.toArray true).wp Try.prog Q a w :=
  wp_region_quiet (C := fun w' => ∃ n : {W // S W}, w' = n.1) hm hB ⟨⟨w.drew, hS⟩, rfl⟩ (by simpa using h {W // S W} ⟨⟨w.drew, hS⟩⟩ Subtype.val (fun n => n.2) (fun W hW => ⟨⟨W, hW⟩, rfl⟩))
set_option maxRecDepth 100000 in
set_option maxHeartbeats 8000000 in
theorem calls_any (A : Option Addr) (l : List Cl) (c : Nat) (p s k z : Int) (w : World) (hcs : CA w.heap.size w A l) (hp : I64 p) (hs : I64 s) :
    Calls Try.prog 3 #[.slice A l.length c, pv p s, pv k z] w fun e w' => e = .returned (.bool true) ∧ Below w.heap.size w w' := by
  obtain ⟨N, hN⟩ : ∃ N, l.length = N := ⟨_, rfl⟩
  have HN := Lib.hid hN
  have HCs := Lib.hid hcs
  have HI : Hid (I64 p ∧ I64 s) := ⟨hp, hs⟩
  rw [hN]
  obtain ⟨w1, hw1⟩ : ∃ w1, (w.alloc (.cells #[.int .i64 p, .int .i64 s] 24)).alloc (.cells #[.int .i64 k, .int .i64 z] 26) = w1 := ⟨_, rfl⟩
  have b1 : Below w.heap.size w w1 := by rw [← hw1]; exact up_alloc (up_alloc (Below.refl _ _) _) _
  have X1 : Hid (Bx2 w.heap.size w1 p s k z) := by rw [← hw1]; exact Bx2.made w p s k z
  have HB1 := Lib.hid b1
  clear hcs hN hp hs b1
  by_cases hbig : 200 < N
  · have hd : decide ((200 : Int) < (N : Int)) = true := by simp; omega
    go_enter Try.func3, Try.ntmps3
    go_wp2_with fail
    clear hw1
    refine (alive_any _).mono ?_
    rintro e w2 ⟨rfl, b2⟩
    have HB2 := Lib.hid (up_trans HB1.out b2)
    clear b2
    go_wp2_with fail
    go_ret
    exact ⟨rfl, HB2.out⟩
  have hd : decide ((200 : Int) < (N : Int)) = false := by simp; omega
  have hNl : N ≤ 200 := by omega
  go_enter Try.func3, Try.ntmps3
  go_wp2_with fail
  clear hw1
  refine (alive_any _).mono ?_
  rintro e w2 ⟨rfl, b2⟩
  have HB2 := Lib.hid (up_trans HB1.out b2)
  have X2 := Lib.hid (X1.out.below b2)
  have HNew := Lib.hid (new_any w2)
  clear b2 HB1 X1
  go_wp2_with fail
  refine HNew.out.mono ?_
  rintro e w3 ⟨rfl, t3, b3, s3⟩
  obtain ⟨q, hq⟩ : ∃ q, w2.heap.size + 1 = q := ⟨_, rfl⟩
  obtain ⟨b, hb⟩ : ∃ b, w2.heap.size = b := ⟨_, rfl⟩
  have hx2 := X2.out.b.lt
  have hkb : w.heap.size + 2 ≤ b := by omega
  have hsz3 := b3.size
  have hal := up_alloc (Below.refl w3.heap.size w3) (.cells #[.slice none 0 0] 33)
  have HMv : Hid (Cv w (w3.alloc (.cells #[.slice none 0 0] 33)) q b w3.heap.size [] p s k z) := by
    rw [hq, hb] at t3
    exact ⟨⟨t3.below hal, _, ⟨Blk.new w3 [.slice none 0 0] 33, World.ownsRow_nil _ _ _ _⟩⟩, (X2.out.below b3).below hal, up_trans (up_trans HB2.out b3) hal, hkb, by omega⟩
  rw [hq]
  obtain ⟨P, hP⟩ : ∃ P, w3.heap.size = P := ⟨_, rfl⟩
  rw [hP] at HMv
  obtain ⟨w4, hw4⟩ : ∃ w4, w3.alloc (.cells #[.slice none 0 0] 33) = w4 := ⟨_, rfl⟩
  rw [hw4] at HMv
  clear HNew t3 b3 s3 hq hb HB2 X2 hx2 hal hsz3 hkb
  go_wp2_with fail
  clear hw4 hP
  go_loopw [9] (fun i wr => ∃ (j : Nat) (L : List Tr), j ≤ N ∧ i = .int .i64 j ∧ Cv w wr q b P L p s k z) (fun i _ => N - (intOf i).toNat)
  case atStart => exact ⟨0, [], by omega, rfl, HMv.out⟩
  case round =>
    obtain ⟨j, L, hj, rfl, hm⟩ := hrel
    have HM := Lib.hid hm
    clear hm HMv
    by_cases hlt : j < N
    · have hjl : j < l.length := by rw [HN.out]; exact hlt
      obtain ⟨cb, co, rfl, _, i1, i2, c0, c1, c2, c3, c4, c5, c6⟩ := (HCs.out.below HM.out.bel) j hjl
      obtain ⟨x, hx⟩ : ∃ x, l[j] = x := ⟨_, rfl⟩
      rw [hx] at i1 i2 c0 c1 c2 c3 c4 c5 c6
      obtain ⟨xc, xp, xs, xp2, xs2, xk, xz⟩ := x
      simp only [] at i1 i2 c0 c1 c2 c3 c4 c5 c6
      have HDo := Lib.hid (do_any HM.out.bo xc ⟨xp, xs, xk, xz⟩ xp2 xs2 i1 i2)
      simp only [] at HDo
      have j1 : (0 : Int) ≤ (j : Int) := by omega
      have j2 : (j : Int) < (N : Int) := by omega
      clear hx hjl i1 i2
      go_wp2_with fail
      refine HDo.out.mono ?_
      rintro e w5 ⟨rfl, bo5, f5⟩
      have HM5 := Lib.hid (HM.out.done bo5 f5)
      clear bo5 f5 HDo c0 c1 c2 c3 c4 c5 c6
      go_wp2_with fail
      go_roundw
      case rel => exact ⟨j + 1, _, by omega, by go_num, HM5.out⟩
      case measure => simp [intOf]; omega
    · obtain rfl : j = N := by omega
      have hwL := HM.out.bo.tg.wf
      have HWL := Lib.hid hwL
      have hlen := hwL.len
      obtain ⟨w5, hw5⟩ : ∃ w5, wr.alloc (.cells #[] 3) = w5 := ⟨_, rfl⟩
      have b5 : Below wr.heap.size wr w5 := by rw [← hw5]; exact up_alloc (Below.refl _ _) _
      have e5 : Blk w5 wr.heap.size [] 3 := by rw [← hw5]; exact Blk.new wr [] 3
      obtain ⟨g0, hg0⟩ : ∃ g0, wr.heap.size = g0 := ⟨_, rfl⟩
      have hg0w := HM.out.bel.size
      have M5 := Lib.hid (HM.out.below b5)
      rw [hg0] at e5 hg0w
      have E5 := Lib.hid e5
      obtain ⟨k0, k1, k2, k3⟩ := M5.out.bx.cells
      clear HM hlt hj hwL b5 e5
      go_wp2_with fail
      clear hw5 hg0
      refine (of_any M5.out.bo.tg k).mono ?_
      rintro e w6 ⟨Al, cl, rfl, at6, b6⟩
      obtain ⟨m, hm⟩ : ∃ m, (ofW L k).length = m := ⟨_, rfl⟩
      have HLm := Lib.hid hm
      have hml : m ≤ L.length := by rw [← hm]; exact of_len L k
      rw [hm]
      have M6 := Lib.hid (M5.out.below b6)
      have E6 := Lib.hid (E5.out.below b6)
      have A6 := Lib.hid at6
      have HGet := Lib.hid (get_any M6.out.bo.tg HI.out.1 HI.out.2)
      obtain ⟨Ky, hKy⟩ : ∃ x, (rowOf L p s).k = x := ⟨_, rfl⟩
      obtain ⟨Zy, hZy⟩ : ∃ x, (rowOf L p s).z = x := ⟨_, rfl⟩
      obtain ⟨H, hH⟩ : ∃ x, hasB L p s = x := ⟨_, rfl⟩
      have HR : Hid ((rowOf L p s).k = Ky ∧ (rowOf L p s).z = Zy ∧ hasB L p s = H) := ⟨hKy, hZy, hH⟩
      rw [hKy, hZy, hH] at HGet
      obtain ⟨k4, k5, k6, k7⟩ := M6.out.bx.cells
      clear hm at6 b6 M5 E5 hKy hZy hH k0 k1 k2 k3
      go_wp2_with fail
      refine HGet.out.mono ?_
      rintro e w7 ⟨rfl, b7⟩
      obtain ⟨w8, hw8⟩ : ∃ w8, w7.alloc (.cells #[.int .i64 Ky, .int .i64 Zy] 26) = w8 := ⟨_, rfl⟩
      have b8 : Below w7.heap.size w7 w8 := by rw [← hw8]; exact up_alloc (Below.refl _ _) _
      have x8 : Blk w8 w7.heap.size [.int .i64 Ky, .int .i64 Zy] 26 := by rw [← hw8]; exact Blk.new w7 _ 26
      have hb8 := up_trans b7 b8
      have M8 := Lib.hid (M6.out.below hb8)
      have E8 := Lib.hid (E6.out.below hb8)
      obtain ⟨v, hrf⟩ := M8.out.bo.rf
      obtain ⟨Ar, cr, rfl⟩ := hrf.form
      obtain ⟨y, hy⟩ : ∃ y, w7.heap.size = y := ⟨_, rfl⟩
      rw [hy] at x8
      have X8 : Hid (Cx w w8 q b P (.slice Ar L.length cr) L p s k z Al y Ky Zy) := ⟨M8.out.bo.tg, hrf, M8.out.bx, M8.out.bel, A6.out.up hb8, x8⟩
      obtain ⟨n, hn⟩ : ∃ n, L.length = n := ⟨_, rfl⟩
      have HLn := Lib.hid hn
      obtain ⟨F, hF⟩ : ∃ F, fiI L p s = F := ⟨_, rfl⟩
      have HF := Lib.hid hF
      have HFind := Lib.hid (find_any X8.out.rf (by omega) p s)
      rw [hF] at HFind
      rw [hn] at hlen hml X8
      obtain ⟨u0, u1, u2, u3⟩ := M8.out.bx.cells
      clear b7 b8 x8 hb8 hrf M6 E6 A6 M8 hn hF HGet k4 k5 k6 k7
      go_wp2_with fail
      clear hw8 hy
      refine HFind.out.mono ?_
      rintro e w9 ⟨rfl, rfl⟩
      clear HFind
      go_wp2_with fail
      go_loopw [10, 11, 12, 17] (fun u mn kk i wr => ∃ (j g cg : Nat), j ≤ n ∧ i = .int .i64 j ∧ mn = .int .i64 (same (L.take j) k z : Nat) ∧ kk = .int .i64 ((ofW (L.take j) k).length : Nat) ∧ u = .slice (some ⟨g, 0, none⟩) (inP (L.take j) p).length cg ∧
        wr.ownsRow g0 3 1 (.slice (some ⟨g, 0, none⟩) (inP (L.take j) p).length cg) (inP (L.take j) p).length (ints ((inP (L.take j) p).map (·.s))) ∧ (g = g0 ∨ w8.heap.size ≤ g) ∧ Fr g0 g0 w8 wr) (fun _ _ _ i _ => n - (intOf i).toNat)
      case atStart => exact ⟨0, g0, 0, by omega, rfl, rfl, rfl, rfl, ⟨rfl, .inr ⟨g0, 0, #[], rfl, Nat.le_refl _, E8.out, by simp [inP], by simp, by simp [inP, ints]⟩⟩, .inl rfl, Fr.of (Below.refl _ _)⟩
      case round =>
        obtain ⟨j, g, cg, hj, rfl, rfl, rfl, rfl, ho, hgg, hf⟩ := hrel
        have HO := Lib.hid ho
        have HFr := Lib.hid hf
        clear ho hf
        have XR := Lib.hid (X8.out.e E8.out HFr.out hg0w)
        have P0 := XR.out.rf.cell
        by_cases hlt : j < n
        · have hkl : j < L.length := by rw [HLn.out]; exact hlt
          obtain ⟨rb, ro, rfl, _, q0, q1, q2, q3⟩ := (XR.out.rf.at HLn.out).row hkl
          have htk : L.take (j + 1) = L.take j ++ [L[j]] := List.take_succ_eq_append_getElem hkl
          have hsm : Hid ((same (L.take (j + 1)) k z : Int) = same (L.take j) k z + (if isT k z L[j] then 1 else 0)) := by show _ = _; rw [htk]; exact same_snoc _ _ _ _
          have hof : Hid ((ofW (L.take (j + 1)) k).length = (ofW (L.take j) k ++ (if L[j].k == k then [L[j]] else [])).length) := by show _ = _; rw [htk, of_snoc]
          have hin : Hid ((inP (L.take (j + 1)) p).map (·.s) = (inP (L.take j) p).map (·.s) ++ (if L[j].p == p then [L[j].s] else [])) := by show _ = _; rw [htk]; exact in_snoc _ _ _
          have HNx : Hid (L[j].k = k → ∃ h : (ofW (L.take j) k).length < (ofW L k).length, (ofW L k)[(ofW (L.take j) k).length] = L[j]) := fun h => of_next hkl h
          have hSl := same_len (L.take j) k z
          have hOl := of_len (L.take j) k
          have hIl : (inP (L.take j) p).length ≤ (L.take j).length := List.length_filter_le _ _
          have htl : (L.take j).length ≤ j := by rw [List.length_take]; omega
          obtain ⟨x, hx⟩ : ∃ x, L[j] = x := ⟨_, rfl⟩
          simp only [hx] at q0 q1 q2 q3 hsm hof hin HNx
          obtain ⟨xp, xs, xk, xz⟩ := x
          simp only [] at q0 q1 q2 q3 hsm hof hin HNx
          obtain ⟨S, hS⟩ : ∃ S, same (L.take j) k z = S := ⟨_, rfl⟩
          obtain ⟨O, hO⟩ : ∃ O, (ofW (L.take j) k).length = O := ⟨_, rfl⟩
          obtain ⟨I, hI⟩ : ∃ I, (inP (L.take j) p).length = I := ⟨_, rfl⟩
          simp only [hS] at hsm hSl ⊢
          rw [hI] at hIl HO ⊢
          simp only [hO] at HNx hOl ⊢
          obtain ⟨is, his⟩ : ∃ is, (inP (L.take j) p).map (·.s) = is := ⟨_, rfl⟩
          rw [his] at hin HO
          obtain ⟨wz, hwz⟩ : ∃ wz, wr.alloc (.cells #[.int .i64 xp, .int .i64 xs, .int .i64 xk, .int .i64 xz] 44) = wz := ⟨_, rfl⟩
          have bz : Below wr.heap.size wr wz := by rw [← hwz]; exact up_alloc (Below.refl _ _) _
          have xbz : Blk wz wr.heap.size [.int .i64 xp, .int .i64 xs, .int .i64 xk, .int .i64 xz] 44 := by rw [← hwz]; exact Blk.new wr _ 44
          have hgl := (HO.out.lt g rfl).2
          obtain ⟨zb, hzb⟩ : ∃ zb, wr.heap.size = zb := ⟨_, rfl⟩
          rw [hzb] at xbz hgl
          have XZ := Lib.hid (XR.out.below bz)
          have OZ := Lib.hid (own_below HO.out bz)
          have FZ := Lib.hid (HFr.out.trans (Fr.of bz))
          have BZ := Lib.hid xbz
          have z0 : wz.cell? ⟨zb, 0, none⟩ = some (.int .i64 xp) := xbz.cell
          have z1 : wz.cell? ⟨zb, 1, none⟩ = some (.int .i64 xs) := xbz.cell
          have z2 : wz.cell? ⟨zb, 2, none⟩ = some (.int .i64 xk) := xbz.cell
          have z3 : wz.cell? ⟨zb, 3, none⟩ = some (.int .i64 xz) := xbz.cell
          have hgs : Hid (g0 ≤ wz.heap.size) := Nat.le_trans (Nat.le_of_lt (Nat.lt_of_lt_of_le E8.out.lt HFr.out.size)) bz.size
          have j1 : (0 : Int) ≤ (j : Int) := by omega
          have j2 : (j : Int) < (n : Int) := by omega
          have HGG := Lib.hid hgg
          clear xbz bz hkl htk hx hI his hgg HO XR
          by_cases hpe : p = xp
          · have hin1 : Hid ((inP (L.take (j + 1)) p).map (·.s) = is ++ [xs]) := by show _ = _; rw [hin.out, ← hpe]; simp
            have hlI : Hid ((inP (L.take (j + 1)) p).length = I + 1) := by
              show _ = _
              have h1 := congrArg List.length hin1.out
              have h2 := OZ.out.1
              rw [List.length_map, List.length_append] at h1
              rw [ints_len] at h2
              rw [h1]; simp; omega
            obtain ⟨a0, a1, a2, a3⟩ := XZ.out.bx.cells
            subst hpe
            go_upto_region 24 with (first
              | (at_builtin; refine app_law el3 rfl _ _ rfl rfl (OZ.out.alloc _) rfl (Blk.new wz [.int .i64 xs] 3) rfl (by simp [Value.oneCell']) (by omega) (by rw [World.size_alloc]; have := hgs.out; omega) ?_; intro g' cap' wa hoa hga hgw)
              | go_in)
            clear hwz hzb
            have FA := Lib.hid ((FZ.out.trans (Fr.of (up_alloc (Below.refl _ _) (.cells #[.int .i64 xs] 3)))).more hga.out HGG.out)
            have XA := Lib.hid (X8.out.e E8.out FA.out hg0w)
            have hga1 : (wz.alloc (.cells #[.int .i64 xs] 3)).grownBy wa (some g) := hga.out
            have BA : Hid (Blk wa zb [.int .i64 p, .int .i64 xs, .int .i64 xk, .int .i64 xz] 44) := (BZ.out.below (up_alloc (Below.refl _ _) (.cells #[.int .i64 xs] 3))).of (hga1.block zb (by rw [World.size_alloc]; exact Nat.lt_succ_of_lt BZ.out.lt) (by intro e; cases e; omega))
            clear hga1
            have y0 : wa.cell? ⟨zb, 0, none⟩ = some (.int .i64 p) := BA.out.cell
            have y1 : wa.cell? ⟨zb, 1, none⟩ = some (.int .i64 xs) := BA.out.cell
            have y2 : wa.cell? ⟨zb, 2, none⟩ = some (.int .i64 xk) := BA.out.cell
            have y3 : wa.cell? ⟨zb, 3, none⟩ = some (.int .i64 xz) := BA.out.cell
            have OA : Hid (wa.ownsRow g0 3 1 (.slice (some ⟨g', 0, none⟩) (inP (L.take (j + 1)) p).length cap') (inP (L.take (j + 1)) p).length (ints ((inP (L.take (j + 1)) p).map (·.s)))) := by
              show World.ownsRow _ _ _ _ _ _ _
              rw [hlI.out, hin1.out, ints_snoc]
              exact hoa.out
            have hgg2 : Hid (g' = g0 ∨ w8.heap.size ≤ g') := by
              rcases hgw.out with h1 | h1
              · cases h1; exact HGG.out
              · have := FZ.out.size; rw [World.size_alloc] at h1; exact .inr (by omega)
            clear hoa hga hgw z0 z1 z2 z3 a0 a1 a2 a3 OZ XZ FZ BZ hin1 q0 q1 q2 q3
            obtain ⟨a0, a1, a2, a3⟩ := XA.out.bx.cells
            by_cases hk : xk = k
            · obtain ⟨hlo, hnx⟩ := HNx.out hk
              obtain ⟨lb, lo, rfl, _, l0, l1⟩ := at_pl XA.out.ls (t := O) hlo
              rw [hnx] at l0 l1
              have hkk : k = xk := hk.symm
              have hO1 : Hid (((ofW (L.take (j + 1)) k).length : Nat) = O + 1) := by show _ = _; rw [hof.out, hk]; simp [hO]
              have hOm : O < m := by rw [← HLm.out]; exact hlo
              have dO : decide ((m : Int) ≤ (O : Int)) = false := by simp; omega
              have dOn : decide (m ≤ O) = false := by simp; omega
              have jO : (0 : Int) ≤ (O : Int) := by omega
              have jO2 : (O : Int) < (m : Int) := by omega
              have hwO := i64_in ((O : Int) + 1) (by omega) (by omega)
              by_cases hz : xz = z
              · have hS1 : Hid (same (L.take (j + 1)) k z = S + 1) := by show _ = _; have h := hsm.out; rw [hk, hz] at h; simp [isT] at h; omega
                have hwS := i64_in ((S : Int) + 1) (by omega) (by omega)
                subst hkk; have hzz : z = xz := hz.symm; subst hzz
                clear hk hz hlo hnx hof hsm HNx hO hS
                go_wp2_with fail
                go_quiet (fail)
                go_wp2_with fail
                go_roundw
                case rel => exact ⟨j + 1, g', cap', by omega, by go_num, by (rw [hS1.out] <;> first | rfl | (push_cast; rfl)), by (rw [hO1.out] <;> first | rfl | (push_cast; rfl)), by rw [hlI.out], OA.out, hgg2.out, FA.out.trans (Fr.of (up_drew (Below.refl _ _) _))⟩
                case measure => simp [intOf]; omega
              · have hS1 : Hid (same (L.take (j + 1)) k z = S) := by show _ = _; have h := hsm.out; simp [isT, hz] at h; omega
                have dz : (xz == z) = false := by simpa using hz
                subst hkk
                clear hk hz hlo hnx hof hsm HNx hO hS
                go_wp2_with fail
                go_quiet (fail)
                go_wp2_with fail
                go_roundw
                case rel => exact ⟨j + 1, g', cap', by omega, by go_num, by (rw [hS1.out] <;> first | rfl | (push_cast; rfl)), by (rw [hO1.out] <;> first | rfl | (push_cast; rfl)), by rw [hlI.out], OA.out, hgg2.out, FA.out.trans (Fr.of (up_drew (Below.refl _ _) _))⟩
                case measure => simp [intOf]; omega
            · have dk : (xk == k) = false := by simpa using hk
              have hO1 : Hid (((ofW (L.take (j + 1)) k).length : Nat) = O) := by show _ = _; rw [hof.out, dk]; simpa using hO
              have hS1 : Hid (same (L.take (j + 1)) k z = S) := by show _ = _; have h := hsm.out; simp [isT, hk] at h; omega
              clear hk hof hsm HNx hO hS
              go_wp2_with fail
              go_roundw
              case rel => exact ⟨j + 1, g', cap', by omega, by go_num, by rw [hS1.out], by rw [hO1.out], by rw [hlI.out], OA.out, hgg2.out, FA.out⟩
              case measure => simp [intOf]; omega
          · have dp : (xp == p) = false := by simp; exact fun h => hpe h.symm
            have hin1 : Hid ((inP (L.take (j + 1)) p).map (·.s) = is) := by show _ = _; rw [hin.out, dp]; simp
            have hlI : Hid ((inP (L.take (j + 1)) p).length = I) := by
              show _ = _
              have h1 := congrArg List.length hin1.out
              have h2 := OZ.out.1
              rw [List.length_map] at h1
              rw [ints_len] at h2
              rw [h1]; omega
            have OA : Hid (wz.ownsRow g0 3 1 (.slice (some ⟨g, 0, none⟩) (inP (L.take (j + 1)) p).length cg) (inP (L.take (j + 1)) p).length (ints ((inP (L.take (j + 1)) p).map (·.s)))) := by
              show World.ownsRow _ _ _ _ _ _ _
              rw [hlI.out, hin1.out]
              exact OZ.out
            have hgg2 := HGG
            clear OZ hin1 hpe
            obtain ⟨a0, a1, a2, a3⟩ := XZ.out.bx.cells
            by_cases hk : xk = k
            · obtain ⟨hlo, hnx⟩ := HNx.out hk
              obtain ⟨lb, lo, rfl, _, l0, l1⟩ := at_pl XZ.out.ls (t := O) hlo
              rw [hnx] at l0 l1
              have hkk : k = xk := hk.symm
              have hO1 : Hid (((ofW (L.take (j + 1)) k).length : Nat) = O + 1) := by show _ = _; rw [hof.out, hk]; simp [hO]
              have hOm : O < m := by rw [← HLm.out]; exact hlo
              have dO : decide ((m : Int) ≤ (O : Int)) = false := by simp; omega
              have dOn : decide (m ≤ O) = false := by simp; omega
              have jO : (0 : Int) ≤ (O : Int) := by omega
              have jO2 : (O : Int) < (m : Int) := by omega
              have hwO := i64_in ((O : Int) + 1) (by omega) (by omega)
              by_cases hz : xz = z
              · have hS1 : Hid (same (L.take (j + 1)) k z = S + 1) := by show _ = _; have h := hsm.out; rw [hk, hz] at h; simp [isT] at h; omega
                have hwS := i64_in ((S : Int) + 1) (by omega) (by omega)
                subst hkk; have hzz : z = xz := hz.symm; subst hzz
                clear hk hz hlo hnx hof hsm HNx hO hS
                go_wp2_with fail
                go_quiet (fail)
                go_wp2_with fail
                go_roundw
                case rel => exact ⟨j + 1, g, cg, by omega, by go_num, by (rw [hS1.out] <;> first | rfl | (push_cast; rfl)), by (rw [hO1.out] <;> first | rfl | (push_cast; rfl)), by rw [hlI.out], OA.out, hgg2.out, FZ.out.trans (Fr.of (up_drew (Below.refl _ _) _))⟩
                case measure => simp [intOf]; omega
              · have hS1 : Hid (same (L.take (j + 1)) k z = S) := by show _ = _; have h := hsm.out; simp [isT, hz] at h; omega
                have dz : (xz == z) = false := by simpa using hz
                subst hkk
                clear hk hz hlo hnx hof hsm HNx hO hS
                go_wp2_with fail
                go_quiet (fail)
                go_wp2_with fail
                go_roundw
                case rel => exact ⟨j + 1, g, cg, by omega, by go_num, by (rw [hS1.out] <;> first | rfl | (push_cast; rfl)), by (rw [hO1.out] <;> first | rfl | (push_cast; rfl)), by rw [hlI.out], OA.out, hgg2.out, FZ.out.trans (Fr.of (up_drew (Below.refl _ _) _))⟩
                case measure => simp [intOf]; omega
            · have dk : (xk == k) = false := by simpa using hk
              have hO1 : Hid (((ofW (L.take (j + 1)) k).length : Nat) = O) := by show _ = _; rw [hof.out, dk]; simpa using hO
              have hS1 : Hid (same (L.take (j + 1)) k z = S) := by show _ = _; have h := hsm.out; simp [isT, hk] at h; omega
              clear hk hof hsm HNx hO hS
              go_wp2_with fail
              go_roundw
              case rel => exact ⟨j + 1, g, cg, by omega, by go_num, by rw [hS1.out], by rw [hO1.out], by rw [hlI.out], OA.out, hgg2.out, FZ.out⟩
              case measure => simp [intOf]; omega
        · obtain rfl : j = n := by omega
          have htk : L.take j = L := List.take_of_length_le (by rw [HLn.out]; omega)
          rw [htk] at HO ⊢
          have HIn : Hid (At wr.heap.size wr (some ⟨g, 0, none⟩) (ints ((inP L p).map (·.s)))) := own_at HO.out
          have hIl : (inP L p).length ≤ L.length := List.length_filter_le _ _
          rw [HLm.out]
          have HEnd := Lib.hid (fun (V : World) (hV : Below wr.heap.size wr V) => XR.out.below hV)
          have HAtR := Lib.hid (fun (V : World) (hV : Below wr.heap.size wr V) => (XR.out.below hV).rf.at HLn.out)
          have HCnt := Lib.hid (fun (V : World) (hV : Below wr.heap.size wr V) => (by have := count_any (XR.out.below hV).tg; rwa [HLn.out] at this : Calls Try.prog 17 #[.pointer (some ⟨q, 0, none⟩)] V fun e w' => e = .returned (.int .i64 j) ∧ V = w'))
          have HRows := Lib.hid (fun (V : World) (hV : Below wr.heap.size wr V) => (by have := rows_any (XR.out.below hV).tg; rwa [HLn.out] at this : Calls Try.prog 21 #[.pointer (some ⟨q, 0, none⟩)] V fun e w' => ∃ A c, e = .returned (.slice A j c) ∧ At w'.heap.size w' A (flat4 L) ∧ Below V.heap.size V w'))
          have HInn : Hid ((inP L p).length = ((inP L p).map (·.s)).length) := by show _ = _; rw [List.length_map]
          obtain ⟨I, hI⟩ : ∃ I, (inP L p).length = I := ⟨_, rfl⟩
          have HInC := Lib.hid (fun (V : World) (hV : Below wr.heap.size wr V) => (by have := in_any (XR.out.below hV).tg HI.out.1; rwa [hI] at this : Calls Try.prog 15 #[.pointer (some ⟨q, 0, none⟩), .int .i64 p] V fun e w' => ∃ A c, e = .returned (.slice A I c) ∧ At w'.heap.size w' A (ints ((inP L p).map (·.s))) ∧ Below V.heap.size V w'))
          rw [hI] at HInn hIl ⊢
          have HSm := Lib.hid (fun (V : World) (hV : Below wr.heap.size wr V) => same_any (XR.out.below hV).tg k z)
          have HBy := Lib.hid (fun (V : World) (hV : Below wr.heap.size wr V) => bytes_any (XR.out.below hV).tg)
          have HRb := Lib.hid (fun (V : World) (hV : Below wr.heap.size wr V) => rbytes_any (XR.out.below hV).rf HWL.out)
          generalize same L k z = S at *
          generalize bytes L = Y at *
          clear htk hlt hj hI HO HFr E8 X8
          have hIj : I ≤ 524288 := by rw [HLn.out] at hIl; omega
          clear hIl
          have SB2 := Lib.hid (fun (V : World) (hV : Below wr.heap.size wr V) => (show V.cell? ⟨P, 0, none⟩ = some (.slice Ar j cr) ∧ V.cell? ⟨w.heap.size, 0, none⟩ = some (.int .i64 p) ∧ V.cell? ⟨w.heap.size + 1, 0, none⟩ = some (.int .i64 k) ∧ V.cell? ⟨w.heap.size + 1, 1, none⟩ = some (.int .i64 z) from ⟨(HEnd.out V hV).rf.cell, (HEnd.out V hV).bx.a.cell, (HEnd.out V hV).bx.b.cell, (HEnd.out V hV).bx.b.cell⟩))
          obtain ⟨a0, a1, a2, a3⟩ := XR.out.bx.cells
          have y0 : wr.cell? ⟨y, 0, none⟩ = some (.int .i64 Ky) := XR.out.yb.cell
          have y1 : wr.cell? ⟨y, 1, none⟩ = some (.int .i64 Zy) := XR.out.yb.cell
          cases hH : H with
          | false =>
            have hno := HR.out.2.2
            rw [hH] at hno
            have hr := rowOf_no hno
            obtain rfl : Ky = 0 := by rw [← HR.out.1, hr]
            obtain rfl : Zy = 0 := by rw [← HR.out.2.1, hr]
            obtain rfl : F = -1 := by rw [← HF.out]; unfold fiI; rw [hno]; rfl
            clear hno hr hH
            have P0 := XR.out.rf.cell
            go_wp2_with fail
            go_quiet (fail)
            go_wp2_with fail
            clear P0 y0 y1 a0 a1 a2 a3
            have d1 : ((m : Int) == (m : Int)) = true := by simp
            have d2 : ((S : Int) == (S : Int)) = true := by simp
            have d3 : ((j : Int) == (j : Int)) = true := by simp
            have d4 : (Y == Y) = true := by simp
            go_region_held3 (fun V => V.cell? ⟨P, 0, none⟩ = some (.slice Ar j cr) ∧ V.cell? ⟨w.heap.size, 0, none⟩ = some (.int .i64 p) ∧ V.cell? ⟨w.heap.size + 1, 0, none⟩ = some (.int .i64 k) ∧ V.cell? ⟨w.heap.size + 1, 1, none⟩ = some (.int .i64 z))
              (first | exact S16 | exact S15 | exact S14 | exact S12 | exact S11 | exact S10 | exact SB2.out _ (up_drew (Below.refl _ wr) _).drew)
              ((first
                | (go_at_call 15; refine (HInC.out _ (up_drew (Below.refl _ wr) _).drew).mono ?_; rintro e w10 ⟨A10, c10, rfl, at10, b10⟩; have B10 : Hid (Below wr.heap.size wr w10) := up_trans (up_drew (Below.refl _ wr) _).drew b10; have S10 := SB2.out _ B10.out; have AT10 := Lib.hid at10; clear at10 b10)
                | (go_at_call 14; refine (sameints_any ((inP L p).map (·.s)) A10 (some ⟨g, 0, none⟩) c10 cg I I _ AT10.out (HIn.out.up B10.out) (by have := HInn.out; omega) HInn.out.symm HInn.out.symm).mono ?_; rintro e w11 ⟨rfl, b11⟩; have B11 : Hid (Below wr.heap.size wr w11) := up_trans B10.out b11; have S11 := SB2.out _ B11.out; clear b11)
                | (go_at_call 16; refine (HSm.out _ B11.out).mono ?_; rintro e w12 ⟨rfl, b12⟩; have B12 : Hid (Below wr.heap.size wr w12) := up_trans B11.out b12; have S12 := SB2.out _ B12.out; clear b12)
                | (go_at_call 17; refine (HCnt.out _ B12.out).mono ?_; rintro e w13 ⟨rfl, rfl⟩)
                | (go_at_call 18; refine (HBy.out _ B12.out).mono ?_; rintro e w14 ⟨rfl, b14⟩; have B14 : Hid (Below wr.heap.size wr w14) := up_trans B12.out b14; have S14 := SB2.out _ B14.out; clear b14)
                | (go_at_call 19; refine (HRb.out _ B14.out).mono ?_; rintro e w13 ⟨rfl, rfl⟩)
                | (go_at_call 21; refine (HRows.out _ B14.out).mono ?_; rintro e w15 ⟨A15, c15, rfl, at15, b15⟩; have B15 : Hid (Below wr.heap.size wr w15) := up_trans B14.out b15; have S15 := SB2.out _ B15.out; have AT15 := Lib.hid at15; clear at15 b15)
                | (go_at_call 20; refine (samerows_any L A15 Ar c15 cr j j _ AT15.out (HAtR.out _ B15.out) (by rw [HLn.out]; omega) HLn.out HLn.out).mono ?_; rintro e w16 ⟨rfl, b16⟩; have B16 : Hid (Below wr.heap.size wr w16) := up_trans B15.out b16; have S16 := SB2.out _ B16.out; clear b16)))
            go_wp2_with fail
            go_ret
            exact ⟨rfl, (HEnd.out _ B16.out).bel⟩
          | true =>
            have hyes := HR.out.2.2
            rw [hH] at hyes
            have hfl := fi_has.1 hyes
            have hfr := fi_row HWL.out hfl
            obtain ⟨t, ht⟩ : ∃ t, fi L p s = t := ⟨_, rfl⟩
            obtain rfl : F = (t : Int) := by rw [← HF.out]; unfold fiI; rw [hyes, ht]; rfl
            simp only [ht] at hfl hfr
            obtain ⟨_, ep, es⟩ := rowOf_yes hyes
            have hlj : t < j := by rw [← HLn.out]; exact hfl
            have hrow : Hid (L[t].p = p ∧ L[t].s = s ∧ L[t].k = Ky ∧ L[t].z = Zy) := by rw [hfr]; exact ⟨ep, es, HR.out.1, HR.out.2.1⟩
            obtain ⟨rb, ro, rfl, _, q0, q1, q2, q3⟩ := (XR.out.rf.at HLn.out).row hfl
            rw [hrow.out.1] at q0
            rw [hrow.out.2.1] at q1
            rw [hrow.out.2.2.1] at q2
            rw [hrow.out.2.2.2] at q3
            have HFL : Hid (∃ h : t < L.length, L[t].p = p ∧ L[t].s = s ∧ L[t].k = Ky ∧ L[t].z = Zy) := ⟨hfl, hrow.out⟩
            have P0 := XR.out.rf.cell
            have t0 : (0 : Int) ≤ (t : Int) := by omega
            have t1 : (t : Int) < (j : Int) := by omega
            clear hyes hfr ht ep es hH hfl hrow hlj
            have SB := Lib.hid (fun (V : World) (hV : Below wr.heap.size wr V) => (show V.cell? ⟨P, 0, none⟩ = some (.slice (some ⟨rb, ro, none⟩) j cr) ∧ V.cell? ⟨w.heap.size, 0, none⟩ = some (.int .i64 p) ∧ V.cell? ⟨w.heap.size, 1, none⟩ = some (.int .i64 s) ∧ V.cell? ⟨y, 0, none⟩ = some (.int .i64 Ky) ∧ V.cell? ⟨y, 1, none⟩ = some (.int .i64 Zy) ∧ V.cell? ⟨rb, ro + t * 4, none⟩ = some (.int .i64 p) ∧ V.cell? ⟨rb, ro + t * 4 + 1, none⟩ = some (.int .i64 s) ∧ V.cell? ⟨rb, ro + t * 4 + 2, none⟩ = some (.int .i64 Ky) ∧ V.cell? ⟨rb, ro + t * 4 + 3, none⟩ = some (.int .i64 Zy) from by
              have X := HEnd.out V hV
              obtain ⟨hl, e0, e1, e2, e3⟩ := HFL.out
              obtain ⟨rb', ro', e, _, p0, p1, p2, p3⟩ := (HAtR.out V hV).row hl
              cases e
              rw [e0] at p0
              rw [e1] at p1
              rw [e2] at p2
              rw [e3] at p3
              exact ⟨X.rf.cell, X.bx.a.cell, X.bx.a.cell, X.yb.cell, X.yb.cell, p0, p1, p2, p3⟩))
            clear P0 q0 q1 q2 q3 y0 y1 a0 a1 a2 a3
            go_upto_region 30 with fail
            refine region_in (fun W => Below wr.heap.size wr W) (by kernel_rfl) (by kernel_rfl) (Below.refl _ wr).drew ?_
            intro ι ine f hS hT
            have HS := Lib.hid hS
            have s0 := fun n => (SB.out _ (HS.out n)).1
            have s1 := fun n => (SB.out _ (HS.out n)).2.1
            have s2 := fun n => (SB.out _ (HS.out n)).2.2.1
            have s3 := fun n => (SB.out _ (HS.out n)).2.2.2.1
            have s4 := fun n => (SB.out _ (HS.out n)).2.2.2.2.1
            have s5 := fun n => (SB.out _ (HS.out n)).2.2.2.2.2.1
            have s6 := fun n => (SB.out _ (HS.out n)).2.2.2.2.2.2.1
            have s7 := fun n => (SB.out _ (HS.out n)).2.2.2.2.2.2.2.1
            have s8 := fun n => (SB.out _ (HS.out n)).2.2.2.2.2.2.2.2
            have HC := Lib.hid (fun n => (of_eq p s Ky Zy (f n)).mono fun e w' ⟨he, hb⟩ => show _ ∧ ∃ j, w' = f j from ⟨he, hT w' (up_trans (HS.out n) (by rw [hb]; exact up_alloc (up_alloc (up_alloc (Below.refl _ _) _) _) _))⟩)
            clear hS hT
            repeat (go_big_quiet_step ((go_at_call 13; exact HC.out _)))
            refine wpQuiet_nil ?_
            rintro _ ⟨n1, rfl⟩
            have B1 := Lib.hid (HS.out n1)
            have S0 := SB.out _ B1.out.drew
            obtain ⟨wx, hwx⟩ : ∃ wx, f n1 = wx := ⟨_, rfl⟩
            rw [hwx] at B1 S0 ⊢
            clear s0 s1 s2 s3 s4 s5 s6 s7 s8 HC HS hwx
            go_wp2_with fail
            have d1 : ((m : Int) == (m : Int)) = true := by simp
            have d2 : ((S : Int) == (S : Int)) = true := by simp
            have d3 : ((j : Int) == (j : Int)) = true := by simp
            have d4 : (Y == Y) = true := by simp
            go_region_held3 (fun V => V.cell? ⟨P, 0, none⟩ = some (.slice (some ⟨rb, ro, none⟩) j cr) ∧ V.cell? ⟨w.heap.size, 0, none⟩ = some (.int .i64 p) ∧ V.cell? ⟨w.heap.size + 1, 0, none⟩ = some (.int .i64 k) ∧ V.cell? ⟨w.heap.size + 1, 1, none⟩ = some (.int .i64 z))
              (first | exact S16 | exact S15 | exact S14 | exact S12 | exact S11 | exact S10 | exact SB2.out _ B1.out.drew)
              ((first
                | (go_at_call 15; refine (HInC.out _ B1.out.drew).mono ?_; rintro e w10 ⟨A10, c10, rfl, at10, b10⟩; have B10 : Hid (Below wr.heap.size wr w10) := up_trans B1.out.drew b10; have S10 := SB2.out _ B10.out; have AT10 := Lib.hid at10; clear at10 b10)
                | (go_at_call 14; refine (sameints_any ((inP L p).map (·.s)) A10 (some ⟨g, 0, none⟩) c10 cg I I _ AT10.out (HIn.out.up B10.out) (by have := HInn.out; omega) HInn.out.symm HInn.out.symm).mono ?_; rintro e w11 ⟨rfl, b11⟩; have B11 : Hid (Below wr.heap.size wr w11) := up_trans B10.out b11; have S11 := SB2.out _ B11.out; clear b11)
                | (go_at_call 16; refine (HSm.out _ B11.out).mono ?_; rintro e w12 ⟨rfl, b12⟩; have B12 : Hid (Below wr.heap.size wr w12) := up_trans B11.out b12; have S12 := SB2.out _ B12.out; clear b12)
                | (go_at_call 17; refine (HCnt.out _ B12.out).mono ?_; rintro e w13 ⟨rfl, rfl⟩)
                | (go_at_call 18; refine (HBy.out _ B12.out).mono ?_; rintro e w14 ⟨rfl, b14⟩; have B14 : Hid (Below wr.heap.size wr w14) := up_trans B12.out b14; have S14 := SB2.out _ B14.out; clear b14)
                | (go_at_call 19; refine (HRb.out _ B14.out).mono ?_; rintro e w13 ⟨rfl, rfl⟩)
                | (go_at_call 21; refine (HRows.out _ B14.out).mono ?_; rintro e w15 ⟨A15, c15, rfl, at15, b15⟩; have B15 : Hid (Below wr.heap.size wr w15) := up_trans B14.out b15; have S15 := SB2.out _ B15.out; have AT15 := Lib.hid at15; clear at15 b15)
                | (go_at_call 20; refine (samerows_any L A15 (some ⟨rb, ro, none⟩) c15 cr j j _ AT15.out (HAtR.out _ B15.out) (by rw [HLn.out]; omega) HLn.out HLn.out).mono ?_; rintro e w16 ⟨rfl, b16⟩; have B16 : Hid (Below wr.heap.size wr w16) := up_trans B15.out b16; have S16 := SB2.out _ B16.out; clear b16)))
            go_wp2_with fail
            go_ret
            exact ⟨rfl, (HEnd.out _ B16.out).bel⟩
end Go.Proofs.Ytbgacchbldgaeaa
