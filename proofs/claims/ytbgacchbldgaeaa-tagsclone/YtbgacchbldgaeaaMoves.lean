/-
  The walk of the statement on tags that are put, moved there and back, and dropped.
-/
import Derived.Test.YtbgacchbldgaeaaAlive
namespace Go.Proofs.Ytbgacchbldgaeaa
open Go.RowKit Go.Maps

/-- A call that came in. -/
structure Cl where
  c : Int
  p : Int
  s : Int
  p2 : Int
  s2 : Int
  k : Int
  z : Int
/-- Calls that came in. -/
def CA (B : Nat) (w : World) (A : Option Addr) (l : List Cl) : Prop := ∀ j (hj : j < l.length), ∃ b o, A = some ⟨b, o, none⟩ ∧ b < B ∧ I64 l[j].p ∧ I64 l[j].s ∧
  w.cell? ⟨b, o + j * 7, none⟩ = some (.int .i64 l[j].c) ∧ w.cell? ⟨b, o + j * 7 + 1, none⟩ = some (.int .i64 l[j].p) ∧ w.cell? ⟨b, o + j * 7 + 2, none⟩ = some (.int .i64 l[j].s) ∧ w.cell? ⟨b, o + j * 7 + 3, none⟩ = some (.int .i64 l[j].p2) ∧
  w.cell? ⟨b, o + j * 7 + 4, none⟩ = some (.int .i64 l[j].s2) ∧ w.cell? ⟨b, o + j * 7 + 5, none⟩ = some (.int .i64 l[j].k) ∧ w.cell? ⟨b, o + j * 7 + 6, none⟩ = some (.int .i64 l[j].z)
theorem CA.below {B : Nat} {w w' : World} {A : Option Addr} {l : List Cl} (h : CA B w A l) (hb : Below B w w') : CA B w' A l := fun j hj => by
  obtain ⟨b, o, e, hl, i1, i2, c0, c1, c2, c3, c4, c5, c6⟩ := h j hj
  have k : ∀ {i : Nat} {v : Value}, w.cell? ⟨b, i, none⟩ = some v → w'.cell? ⟨b, i, none⟩ = some v := fun {i v} hv => (hb.cell (p := ⟨b, i, none⟩) hl).trans hv
  exact ⟨b, o, e, hl, i1, i2, k c0, k c1, k c2, k c3, k c4, k c5, k c6⟩
/-- Four boxes of a law's parameters. -/
structure Bx4 (B : Nat) (V : World) (p s p' s' k z k' z' : Int) : Prop where
  a : Blk V B [.int .i64 p, .int .i64 s] 24
  b : Blk V (B + 1) [.int .i64 p', .int .i64 s'] 24
  c : Blk V (B + 1 + 1) [.int .i64 k, .int .i64 z] 26
  d : Blk V (B + 1 + 1 + 1) [.int .i64 k', .int .i64 z'] 26
section
variable {B : Nat} {V V' : World} {p s p' s' k z k' z' : Int}
theorem Bx4.below (h : Bx4 B V p s p' s' k z k' z') (hb : Below V.heap.size V V') : Bx4 B V' p s p' s' k z k' z' := ⟨h.a.below hb, h.b.below hb, h.c.below hb, h.d.below hb⟩
theorem Bx4.fr {b P : Nat} (h : Bx4 B V p s p' s' k z k' z') (hf : Fr b P V V') (h1 : B + 4 ≤ b) (h2 : B + 4 ≤ P) : Bx4 B V' p s p' s' k z k' z' :=
  ⟨h.a.of (hf.block _ h.a.lt (by omega) (by omega)), h.b.of (hf.block _ h.b.lt (by omega) (by omega)), h.c.of (hf.block _ h.c.lt (by omega) (by omega)), h.d.of (hf.block _ h.d.lt (by omega) (by omega))⟩
theorem Bx4.cells (h : Bx4 B V p s p' s' k z k' z') : V.cell? ⟨B, 0, none⟩ = some (.int .i64 p) ∧ V.cell? ⟨B, 1, none⟩ = some (.int .i64 s) ∧ V.cell? ⟨B + 1, 0, none⟩ = some (.int .i64 p') ∧ V.cell? ⟨B + 1, 1, none⟩ = some (.int .i64 s') ∧
    V.cell? ⟨B + 1 + 1, 0, none⟩ = some (.int .i64 k) ∧ V.cell? ⟨B + 1 + 1, 1, none⟩ = some (.int .i64 z) ∧ V.cell? ⟨B + 1 + 1 + 1, 0, none⟩ = some (.int .i64 k') ∧ V.cell? ⟨B + 1 + 1 + 1, 1, none⟩ = some (.int .i64 z') :=
  ⟨h.a.cell, h.a.cell, h.b.cell, h.b.cell, h.c.cell, h.c.cell, h.d.cell, h.d.cell⟩
end
theorem Bx4.made (w : World) (p s p' s' k z k' z' : Int) : Bx4 w.heap.size ((((w.alloc (.cells #[.int .i64 p, .int .i64 s] 24)).alloc (.cells #[.int .i64 p', .int .i64 s'] 24)).alloc (.cells #[.int .i64 k, .int .i64 z] 26)).alloc (.cells #[.int .i64 k', .int .i64 z'] 26)) p s p' s' k z k' z' := by
  have up : ∀ (V : World) (o : Obj), Below V.heap.size V (V.alloc o) := fun V o => up_alloc (Below.refl _ _) o
  refine ⟨(((Blk.new w [.int .i64 p, .int .i64 s] 24).below (up _ _)).below (up _ _)).below (up _ _), ?_, ?_, ?_⟩
  · have := ((Blk.new (w.alloc (.cells #[.int .i64 p, .int .i64 s] 24)) [.int .i64 p', .int .i64 s'] 24).below (up _ (.cells #[.int .i64 k, .int .i64 z] 26))).below (up _ (.cells #[.int .i64 k', .int .i64 z'] 26))
    rwa [World.size_alloc] at this
  · have := (Blk.new ((w.alloc (.cells #[.int .i64 p, .int .i64 s] 24)).alloc (.cells #[.int .i64 p', .int .i64 s'] 24)) [.int .i64 k, .int .i64 z] 26).below (up _ (.cells #[.int .i64 k', .int .i64 z'] 26))
    rwa [World.size_alloc, World.size_alloc] at this
  · have := Blk.new (((w.alloc (.cells #[.int .i64 p, .int .i64 s] 24)).alloc (.cells #[.int .i64 p', .int .i64 s'] 24)).alloc (.cells #[.int .i64 k, .int .i64 z] 26)) [.int .i64 k', .int .i64 z'] 26
    rwa [World.size_alloc, World.size_alloc, World.size_alloc] at this
/-- What the law's loop keeps. -/
structure Mv (w V : World) (q b P : Nat) (L : List Tr) (p s p' s' k z k' z' : Int) : Prop where
  bo : Bo V q b P L
  bx : Bx4 w.heap.size V p s p' s' k z k' z'
  bel : Below w.heap.size w V
  kb : w.heap.size + 4 ≤ b
  kP : w.heap.size + 4 ≤ P
section
variable {w V V' : World} {q b P : Nat} {L L' : List Tr} {p s p' s' k z k' z' : Int}
theorem Mv.below (h : Mv w V q b P L p s p' s' k z k' z') (hb : Below V.heap.size V V') : Mv w V' q b P L p s p' s' k z k' z' := ⟨h.bo.below hb, h.bx.below hb, up_trans h.bel hb, h.kb, h.kP⟩
theorem Mv.done (h : Mv w V q b P L p s p' s' k z k' z') (hb : Bo V' q b P L') (hf : Fr b P V V') : Mv w V' q b P L' p s p' s' k z k' z' :=
  ⟨hb, h.bx.fr hf h.kb h.kP, h.bel.trans (hf.below (by have := h.kb; omega) (by have := h.kP; omega) h.bel.size), h.kb, h.kP⟩
/-- The program's tags alone have changed. -/
structure Mw (w V : World) (q b : Nat) (L : List Tr) (p s p' s' k z k' z' : Int) : Prop where
  tg : Tg V q b L
  bx : Bx4 w.heap.size V p s p' s' k z k' z'
  bel : Below w.heap.size w V
  kb : w.heap.size + 4 ≤ b
theorem Mv.one (h : Mv w V q b P L p s p' s' k z k' z') : Mw w V q b L p s p' s' k z k' z' := ⟨h.bo.tg, h.bx, h.bel, h.kb⟩
theorem Mw.below (h : Mw w V q b L p s p' s' k z k' z') (hb : Below V.heap.size V V') : Mw w V' q b L p s p' s' k z k' z' := ⟨h.tg.below hb, h.bx.below hb, up_trans h.bel hb, h.kb⟩
theorem Mw.wrote (h : Mw w V q b L p s p' s' k z k' z') (hw : Wrote q b L' V V') : Mw w V' q b L' p s p' s' k z k' z' :=
  ⟨hw.1, h.bx.fr (Fr.ofq (g := b) hw.2) h.kb h.kb, grown_new h.bel hw.2 (by have := h.kb; omega), h.kb⟩
end
theorem at_b {V V' : World} {b : Nat} {A : Option Addr} {X K : List Tr} (h : At V.heap.size V A (flat4 X)) (hm : Mp V b K) (hg : V.grownBy V' (some b)) : At V'.heap.size V' A (flat4 X) := fun hp => by
  obtain ⟨g, o, e, hl, hc⟩ := h hp
  exact ⟨g, o, e, Nat.lt_of_lt_of_le hl hg.size, fun j v hj => cell_b (hc j v hj) hm hg⟩
/-! ### What becomes of the rows -/
theorem put_bad {L : List Tr} {r : Tr} (h : putE L r ≠ 0) : putL L r = L := by
  unfold putE at h; unfold putL
  split at h
  · rename_i h1
    rw [if_pos h1]
    split at h
    · rename_i h2; rw [if_pos h2]
    · exact absurd rfl h
  · rename_i h1; rw [if_neg h1]
theorem put_good {L : List Tr} {r : Tr} (h : putE L r = 0) : r.ok = true ∧ hasB L r.p r.s = false ∧ putL L r = ins r L := by
  unfold putE at h
  split at h
  · rename_i h1
    split at h
    · cases h
    · rename_i h2
      have h2' : hasB L r.p r.s = false := by simpa using h2
      exact ⟨h1, h2', (put_yes h1 h2').2⟩
  · cases h
theorem mov_bad {L : List Tr} {p s : Int} {r : Tr} (h : movE L p s r ≠ 0) : movL L p s r = L := by
  unfold movE at h; unfold movL
  split at h
  · rename_i h1
    rw [if_pos h1]
    split at h
    · rename_i h2
      rw [if_pos h2]
      split at h
      · rename_i h3; rw [if_pos h3]
      · exact absurd rfl h
    · rename_i h2; rw [if_neg h2]
  · rename_i h1; rw [if_neg h1]
theorem mov_good {L : List Tr} {p s : Int} {r : Tr} (h : movE L p s r = 0) : r.ok = true ∧ hasB (del L p s) r.p r.s = false ∧ movL L p s r = ins r (del L p s) := by
  unfold movE at h
  split at h
  · rename_i h1
    split at h
    · rename_i h2
      split at h
      · cases h
      · rename_i h3
        have h3' : ((!(r.p == p && r.s == s)) && hasB L r.p r.s) = false := by simpa using h3
        exact ⟨h1, mov_free h3', (mov_yes h1 h2 h3').2⟩
    · cases h
  · cases h
theorem ins_row {L : List Tr} (hw : Wf L) {r : Tr} (ho : r.ok = true) (hn : hasB L r.p r.s = false) : rowOf (ins r L) r.p r.s = r ∧ hasB (ins r L) r.p r.s = true :=
  ⟨rowOf_is (hw.ins ho hn) (mem_ins.2 (.inl rfl)), hasB_iff.2 ⟨r, mem_ins.2 (.inl rfl), rfl, rfl⟩⟩
theorem same_pos {L : List Tr} {r : Tr} : 1 ≤ same (ins r L) r.k r.z := by
  unfold same
  exact List.countP_pos_iff.2 ⟨r, mem_ins.2 (.inl rfl), by unfold isT; simp⟩
/-- There and back. -/
theorem back {L : List Tr} (hw : Wf L) {x y : Tr} (hx : x.ok = true) (hnx : hasB L x.p x.s = false) (hy : y.ok = true) (hny : hasB L y.p y.s = false) :
    movE (ins y L) y.p y.s x = 0 ∧ movL (ins y L) y.p y.s x = ins x L ∧ hasB (ins y L) x.p x.s = (x.p == y.p && x.s == y.s) := by
  have h1 := (ins_row hw hy hny).2
  have h2 : hasB (ins y L) x.p x.s = (x.p == y.p && x.s == y.s) := by rw [has_ins, hnx]; simp
  have h3 : ((!(x.p == y.p && x.s == y.s)) && hasB (ins y L) x.p x.s) = false := by rw [h2]; cases (x.p == y.p && x.s == y.s) <;> rfl
  obtain ⟨e1, e2⟩ := mov_yes hx h1 h3
  rw [del_ins hw hny] at e2
  exact ⟨e1, e2, h2⟩
set_option maxRecDepth 100000 in
set_option maxHeartbeats 8000000 in
theorem moves_any (A : Option Addr) (l : List Cl) (c : Nat) (p s p' s' k z k' z' : Int) (w : World) (hcs : CA w.heap.size w A l) (hp : I64 p) (hs : I64 s) (hp' : I64 p') (hs' : I64 s') :
    Calls Try.prog 4 #[.slice A l.length c, pv p s, pv p' s', pv k z, pv k' z'] w fun e w' => e = .returned (.bool true) ∧ Below w.heap.size w w' := by
  obtain ⟨N, hN⟩ : ∃ N, l.length = N := ⟨_, rfl⟩
  have HN := Lib.hid hN
  have HCs := Lib.hid hcs
  have HI : Hid (I64 p ∧ I64 s ∧ I64 p' ∧ I64 s') := ⟨hp, hs, hp', hs'⟩
  rw [hN]
  obtain ⟨w1, hw1⟩ : ∃ w1, (((w.alloc (.cells #[.int .i64 p, .int .i64 s] 24)).alloc (.cells #[.int .i64 p', .int .i64 s'] 24)).alloc (.cells #[.int .i64 k, .int .i64 z] 26)).alloc (.cells #[.int .i64 k', .int .i64 z'] 26) = w1 := ⟨_, rfl⟩
  have b1 : Below w.heap.size w w1 := by rw [← hw1]; exact up_alloc (up_alloc (up_alloc (up_alloc (Below.refl _ _) _) _) _) _
  have X1 : Hid (Bx4 w.heap.size w1 p s p' s' k z k' z') := by rw [← hw1]; exact Bx4.made w p s p' s' k z k' z'
  have HB1 := Lib.hid b1
  clear hcs hN hp hs hp' hs' b1
  by_cases hbig : 200 < N
  · have hd : decide ((200 : Int) < (N : Int)) = true := by simp; omega
    go_enter Try.func4, Try.ntmps4
    go_wp2_with fail
    clear hw1
    refine (alive_any _).mono ?_
    rintro e w2 ⟨rfl, b2⟩
    have HB2 := Lib.hid (up_trans HB1.out b2)
    clear b2
    go_wp2_with fail
    go_ret
    exact ⟨rfl, HB2.out⟩
  have hd : decide ((200 : Int) < (N : Int)) = false := by simp; omega
  have hNl : N ≤ 200 := by omega
  go_enter Try.func4, Try.ntmps4
  go_wp2_with fail
  clear hw1
  refine (alive_any _).mono ?_
  rintro e w2 ⟨rfl, b2⟩
  have HB2 := Lib.hid (up_trans HB1.out b2)
  have X2 := Lib.hid (X1.out.below b2)
  have HNew := Lib.hid (new_any w2)
  clear b2 HB1 X1
  go_wp2_with fail
  refine HNew.out.mono ?_
  rintro e w3 ⟨rfl, t3, b3, s3⟩
  obtain ⟨q, hq⟩ : ∃ q, w2.heap.size + 1 = q := ⟨_, rfl⟩
  obtain ⟨b, hb⟩ : ∃ b, w2.heap.size = b := ⟨_, rfl⟩
  have hx2 := X2.out.d.lt
  have hkb : w.heap.size + 4 ≤ b := by omega
  have hsz3 := b3.size
  have hal := up_alloc (Below.refl w3.heap.size w3) (.cells #[.slice none 0 0] 33)
  have HMv : Hid (Mv w (w3.alloc (.cells #[.slice none 0 0] 33)) q b w3.heap.size [] p s p' s' k z k' z') := by
    rw [hq, hb] at t3
    exact ⟨⟨t3.below hal, _, ⟨Blk.new w3 [.slice none 0 0] 33, World.ownsRow_nil _ _ _ _⟩⟩, (X2.out.below b3).below hal, up_trans (up_trans HB2.out b3) hal, hkb, by omega⟩
  rw [hq]
  obtain ⟨P, hP⟩ : ∃ P, w3.heap.size = P := ⟨_, rfl⟩
  rw [hP] at HMv
  obtain ⟨w4, hw4⟩ : ∃ w4, w3.alloc (.cells #[.slice none 0 0] 33) = w4 := ⟨_, rfl⟩
  rw [hw4] at HMv
  clear HNew t3 b3 s3 hq hb HB2 X2 hx2 hal hsz3 hkb
  go_wp2_with fail
  clear hw4 hP
  go_loopw [13] (fun i wr => ∃ (j : Nat) (L : List Tr), j ≤ N ∧ i = .int .i64 j ∧ Mv w wr q b P L p s p' s' k z k' z') (fun i _ => N - (intOf i).toNat)
  case atStart => exact ⟨0, [], by omega, rfl, HMv.out⟩
  case round =>
    obtain ⟨j, L, hj, rfl, hm⟩ := hrel
    have HM := Lib.hid hm
    clear hm HMv
    by_cases hlt : j < N
    · have hjl : j < l.length := by rw [HN.out]; exact hlt
      obtain ⟨cb, co, rfl, _, i1, i2, c0, c1, c2, c3, c4, c5, c6⟩ := (HCs.out.below HM.out.bel) j hjl
      obtain ⟨x, hx⟩ : ∃ x, l[j] = x := ⟨_, rfl⟩
      rw [hx] at i1 i2 c0 c1 c2 c3 c4 c5 c6
      obtain ⟨xc, xp, xs, xp2, xs2, xk, xz⟩ := x
      simp only [] at i1 i2 c0 c1 c2 c3 c4 c5 c6
      have HDo := Lib.hid (do_any HM.out.bo xc ⟨xp, xs, xk, xz⟩ xp2 xs2 i1 i2)
      simp only [] at HDo
      have j1 : (0 : Int) ≤ (j : Int) := by omega
      have j2 : (j : Int) < (N : Int) := by omega
      clear hx hjl i1 i2
      go_wp2_with fail
      refine HDo.out.mono ?_
      rintro e w5 ⟨rfl, bo5, f5⟩
      have HM5 := Lib.hid (HM.out.done bo5 f5)
      clear bo5 f5 HDo c0 c1 c2 c3 c4 c5 c6
      go_wp2_with fail
      go_roundw
      case rel => exact ⟨j + 1, _, by omega, by go_num, HM5.out⟩
      case measure => simp [intOf]; omega
    · obtain rfl : j = N := by omega
      have M0 := Lib.hid HM.out.one
      have hwL := HM.out.bo.tg.wf
      have HWL := Lib.hid hwL
      have hlen := hwL.len
      clear HM hlt hj hwL
      go_wp2_with fail
      refine (rows_any M0.out.tg).mono ?_
      rintro e w5 ⟨A1, ca1, rfl, at1, b5⟩
      have M5 := Lib.hid (M0.out.below b5)
      have HA1 := Lib.hid at1
      obtain ⟨k0, k1, k2, k3, k4, k5, k6, k7⟩ := M5.out.bx.cells
      have HPut := Lib.hid (put_any M5.out.tg ⟨p, s, k, z⟩)
      simp only [] at HPut
      obtain ⟨n, hn⟩ : ∃ n, L.length = n := ⟨_, rfl⟩
      have HLn := Lib.hid hn
      rw [hn] at hlen ⊢
      clear at1 b5 M0 hn
      by_cases hE : putE L ⟨p, s, k, z⟩ = 0
      · obtain ⟨ho, hno, hpl⟩ := put_good hE
        have HG : Hid ((⟨p, s, k, z⟩ : Tr).ok = true ∧ hasB L p s = false) := ⟨ho, hno⟩
        rw [hE, hpl] at HPut
        clear hE ho hno hpl
        go_wp2_with fail
        refine HPut.out.mono ?_
        rintro e w6 ⟨rfl, wr6⟩
        have M6 := Lib.hid (M5.out.wrote wr6)
        have HA6 := Lib.hid (at_b HA1.out M5.out.tg.mp wr6.2)
        have HCn := Lib.hid (count_any M6.out.tg)
        rw [len_ins, HLn.out] at HCn
        obtain ⟨sm, hsm⟩ : ∃ sm, same (ins ⟨p, s, k, z⟩ L) k z = sm := ⟨_, rfl⟩
        have hsp : 1 ≤ sm := by rw [← hsm]; exact same_pos (r := ⟨p, s, k, z⟩)
        have HSm := Lib.hid (same_any M6.out.tg k z)
        rw [hsm] at HSm
        obtain ⟨m0, m1, m2, m3, m4, m5, m6, m7⟩ := M6.out.bx.cells
        have dd : decide ((sm : Int) < 1) = false := by simp; omega
        have hwr := i64_in ((n : Int) + 1) (by omega) (by omega)
        have hcn : (((n + 1 : Nat) : Int) != (n : Int) + 1) = false := by simp
        clear wr6 HPut M5 HA1 k0 k1 k2 k3 k4 k5 k6 k7 hsm
        go_wp2_with (first
          | (go_at_call 17; refine HCn.out.mono ?_; rintro e w' ⟨rfl, rfl⟩)
          | (go_at_call 16; refine HSm.out.mono ?_; rintro e w7 ⟨rfl, b7⟩; have M7 := Lib.hid (M6.out.below b7); have HA7 := Lib.hid (HA6.out.up b7); have hkk := M7.out.bx.cells; have n0 := hkk.1; have n1 := hkk.2.1; have n2 := hkk.2.2.1; have n3 := hkk.2.2.2.1; have n4 := hkk.2.2.2.2.1; have n5 := hkk.2.2.2.2.2.1; have n6 := hkk.2.2.2.2.2.2.1; have n7 := hkk.2.2.2.2.2.2.2; clear b7 hkk))
        by_cases hE2 : movE (ins ⟨p, s, k, z⟩ L) p s ⟨p', s', k', z'⟩ = 0
        · by_cases q1 : p = p'
          · by_cases q2 : s = s'
            · subst q1; subst q2
              have HMv1 := Lib.hid (move_any M7.out.tg HI.out.1 HI.out.2.1 ⟨p, s, k', z'⟩)
              simp only [] at HMv1
              obtain ⟨ho2, hno2, hml⟩ := mov_good hE2
              have hdl : del (ins ⟨p, s, k, z⟩ L) p s = L := del_ins HWL.out HG.out.2
              rw [hdl] at hno2 hml
              rw [hE2, hml] at HMv1
              simp only [] at hno2
              have hbk := back HWL.out HG.out.1 HG.out.2 ho2 hno2
              simp only [] at hbk
              have hrow : rowOf (ins ⟨p, s, k', z'⟩ L) p s = ⟨p, s, k', z'⟩ := (ins_row HWL.out ho2 hno2).1
              have hhas : hasB (ins ⟨p, s, k', z'⟩ L) p s = true := (ins_row HWL.out ho2 hno2).2
              have HBk := Lib.hid hbk
              have HRow := Lib.hid hrow
              have HHas := Lib.hid hhas
              clear ho2 hno2 hml hdl hbk hrow hhas hE2
              go_wp2_with fail
              refine HMv1.out.mono ?_
              rintro e w8 ⟨rfl, wr8⟩
              have M8 := Lib.hid (M7.out.wrote wr8)
              have HA8 := Lib.hid (at_b HA7.out M7.out.tg.mp wr8.2)
              have HGt1 := Lib.hid (get_any M8.out.tg HI.out.2.2.1 HI.out.2.2.2)
              rw [HRow.out, HHas.out] at HGt1
              simp only [] at HGt1
              have h8 := M8.out.bx.cells
              have v2 := h8.2.2.1
              have v3 := h8.2.2.2.1
              clear wr8 HMv1 h8 n0 n1 n2 n3 n4 n5 n6 n7 M7 HA7
              go_wp2_with fail
              refine HGt1.out.mono ?_
              rintro e w9 ⟨rfl, b9⟩
              obtain ⟨w10, hw10⟩ : ∃ w10, w9.alloc (.cells #[.int .i64 k', .int .i64 z'] 26) = w10 := ⟨_, rfl⟩
              have b10 : Below w9.heap.size w9 w10 := by rw [← hw10]; exact up_alloc (Below.refl _ _) _
              have x10 : Blk w10 w9.heap.size [.int .i64 k', .int .i64 z'] 26 := by rw [← hw10]; exact Blk.new w9 _ 26
              have M10 := Lib.hid ((M8.out.below b9).below b10)
              have HA10 := Lib.hid ((HA8.out.up b9).up b10)
              have X10 := Lib.hid x10
              have HGt2 := Lib.hid (get_any M10.out.tg HI.out.1 HI.out.2.1)
              rw [HBk.out.2.2] at HGt2
              generalize (rowOf (ins ⟨p, s, k', z'⟩ L) p s).k = K2 at HGt2
              generalize (rowOf (ins ⟨p, s, k', z'⟩ L) p s).z = Z2 at HGt2
              rw [show (p == p && s == s) = true by simp] at HGt2
              have h10 := M10.out.bx.cells
              have r0 := h10.1
              have r1 := h10.2.1
              clear b9 b10 x10 h10 v2 v3 HGt1 M8 HA8
              go_wp2_with fail
              clear hw10
              refine HGt2.out.mono ?_
              rintro e w11 ⟨rfl, b11⟩
              have bb : Below w11.heap.size w11 (w11.alloc (.cells #[.int .i64 K2, .int .i64 Z2] 26)) := up_alloc (Below.refl _ _) _
              obtain ⟨w12, hw12⟩ : ∃ w12, w11.alloc (.cells #[.int .i64 K2, .int .i64 Z2] 26) = w12 := ⟨_, rfl⟩
              rw [hw12] at bb
              have M12 := Lib.hid ((M10.out.below b11).below bb)
              have HA12 := Lib.hid ((HA10.out.up b11).up bb)
              have x12 := (X10.out.below b11).below bb
              have t0 : w12.cell? ⟨w9.heap.size, 0, none⟩ = some (.int .i64 k') := x12.cell
              have t1 : w12.cell? ⟨w9.heap.size, 1, none⟩ = some (.int .i64 z') := x12.cell
              have h12 := M12.out.bx.cells
              have o0 := h12.1
              have o1 := h12.2.1
              have o2 := h12.2.2.1
              have o3 := h12.2.2.2.1
              have o4 := h12.2.2.2.2.1
              have o5 := h12.2.2.2.2.2.1
              have o6 := h12.2.2.2.2.2.2.1
              have o7 := h12.2.2.2.2.2.2.2
              have HMv2 := Lib.hid (move_any M12.out.tg HI.out.2.2.1 HI.out.2.2.2 ⟨p, s, k, z⟩)
              simp only [HBk.out.1, HBk.out.2.1] at HMv2
              clear b11 bb x12 h12 r0 r1 HGt2 X10 M10 HA10
              go_wp2_with fail
              clear hw12
              refine HMv2.out.mono ?_
              rintro e w13 ⟨rfl, wr13⟩
              have MX := Lib.hid (M12.out.wrote wr13)
              have HAX := Lib.hid (at_b HA12.out M12.out.tg.mp wr13.2)
              clear wr13 HMv2 M12 HA12 t0 t1 o0 o1 o2 o3 o4 o5 o6 o7
              have e1 : rowOf (ins ⟨p, s, k, z⟩ L) p s = ⟨p, s, k, z⟩ := (ins_row HWL.out HG.out.1 HG.out.2).1
              have e2 : dropE (ins ⟨p, s, k, z⟩ L) p s = 0 := by unfold dropE; rw [if_pos (ins_row HWL.out HG.out.1 HG.out.2).2]
              have e3 : del (ins ⟨p, s, k, z⟩ L) p s = L := del_ins HWL.out HG.out.2
              have HDr := Lib.hid (drop_any MX.out.tg HI.out.1 HI.out.2.1)
              rw [e1, e2, e3] at HDr
              simp only [] at HDr
              have hy := MX.out.bx.cells
              have y0 := hy.1
              have y1 := hy.2.1
              clear e1 e2 e3 hy
              go_wp2_with fail
              refine HDr.out.mono ?_
              rintro e wD ⟨rfl, wrD⟩
              have MD := Lib.hid (MX.out.wrote wrD)
              have HAD := Lib.hid (at_b HAX.out MX.out.tg.mp wrD.2)
              obtain ⟨wE, hwE⟩ : ∃ wE, wD.alloc (.cells #[.int .i64 k, .int .i64 z] 26) = wE := ⟨_, rfl⟩
              have bE : Below wD.heap.size wD wE := by rw [← hwE]; exact up_alloc (Below.refl _ _) _
              have xE : Blk wE wD.heap.size [.int .i64 k, .int .i64 z] 26 := by rw [← hwE]; exact Blk.new wD _ 26
              have ME := Lib.hid (MD.out.below bE)
              have HAE := Lib.hid (HAD.out.up bE)
              have u0 : wE.cell? ⟨wD.heap.size, 0, none⟩ = some (.int .i64 k) := xE.cell
              have u1 : wE.cell? ⟨wD.heap.size, 1, none⟩ = some (.int .i64 z) := xE.cell
              have hyE := ME.out.bx.cells
              have u2 := hyE.2.2.2.2.1
              have u3 := hyE.2.2.2.2.2.1
              clear wrD HDr MD HAD bE xE hyE y0 y1
              go_wp2_with fail
              clear hwE
              refine (rows_any ME.out.tg).mono ?_
              rintro e wF ⟨AF, cF, rfl, atF, bF⟩
              have HBF := Lib.hid (up_trans ME.out.bel bF)
              have HSR := Lib.hid (samerows_any L AF A1 cF ca1 n n wF atF (HAE.out.up bF) (by rw [HLn.out]; omega) HLn.out HLn.out)
              rw [HLn.out]
              clear atF bF u0 u1 u2 u3
              go_wp2_with fail
              refine HSR.out.mono ?_
              rintro e wG ⟨rfl, bG⟩
              have HBG := Lib.hid (up_trans HBF.out bG)
              clear bG
              go_wp2_with fail
              go_ret
              exact ⟨rfl, HBG.out⟩
            · subst q1
              have dq : (s == s') = false := by simpa using q2
              have HMv1 := Lib.hid (move_any M7.out.tg HI.out.1 HI.out.2.1 ⟨p, s', k', z'⟩)
              simp only [] at HMv1
              obtain ⟨ho2, hno2, hml⟩ := mov_good hE2
              have hdl : del (ins ⟨p, s, k, z⟩ L) p s = L := del_ins HWL.out HG.out.2
              rw [hdl] at hno2 hml
              rw [hE2, hml] at HMv1
              simp only [] at hno2
              have hbk := back HWL.out HG.out.1 HG.out.2 ho2 hno2
              simp only [] at hbk
              have hrow : rowOf (ins ⟨p, s', k', z'⟩ L) p s' = ⟨p, s', k', z'⟩ := (ins_row HWL.out ho2 hno2).1
              have hhas : hasB (ins ⟨p, s', k', z'⟩ L) p s' = true := (ins_row HWL.out ho2 hno2).2
              have HBk := Lib.hid hbk
              have HRow := Lib.hid hrow
              have HHas := Lib.hid hhas
              clear ho2 hno2 hml hdl hbk hrow hhas hE2
              go_wp2_with fail
              refine HMv1.out.mono ?_
              rintro e w8 ⟨rfl, wr8⟩
              have M8 := Lib.hid (M7.out.wrote wr8)
              have HA8 := Lib.hid (at_b HA7.out M7.out.tg.mp wr8.2)
              have HGt1 := Lib.hid (get_any M8.out.tg HI.out.2.2.1 HI.out.2.2.2)
              rw [HRow.out, HHas.out] at HGt1
              simp only [] at HGt1
              have h8 := M8.out.bx.cells
              have v2 := h8.2.2.1
              have v3 := h8.2.2.2.1
              clear wr8 HMv1 h8 n0 n1 n2 n3 n4 n5 n6 n7 M7 HA7
              go_wp2_with fail
              refine HGt1.out.mono ?_
              rintro e w9 ⟨rfl, b9⟩
              obtain ⟨w10, hw10⟩ : ∃ w10, w9.alloc (.cells #[.int .i64 k', .int .i64 z'] 26) = w10 := ⟨_, rfl⟩
              have b10 : Below w9.heap.size w9 w10 := by rw [← hw10]; exact up_alloc (Below.refl _ _) _
              have x10 : Blk w10 w9.heap.size [.int .i64 k', .int .i64 z'] 26 := by rw [← hw10]; exact Blk.new w9 _ 26
              have M10 := Lib.hid ((M8.out.below b9).below b10)
              have HA10 := Lib.hid ((HA8.out.up b9).up b10)
              have X10 := Lib.hid x10
              have HGt2 := Lib.hid (get_any M10.out.tg HI.out.1 HI.out.2.1)
              rw [HBk.out.2.2] at HGt2
              generalize (rowOf (ins ⟨p, s', k', z'⟩ L) p s).k = K2 at HGt2
              generalize (rowOf (ins ⟨p, s', k', z'⟩ L) p s).z = Z2 at HGt2
              rw [show (p == p && s == s') = false by simp [q2]] at HGt2
              have h10 := M10.out.bx.cells
              have r0 := h10.1
              have r1 := h10.2.1
              clear b9 b10 x10 h10 v2 v3 HGt1 M8 HA8
              go_wp2_with fail
              clear hw10
              refine HGt2.out.mono ?_
              rintro e w11 ⟨rfl, b11⟩
              have bb : Below w11.heap.size w11 (w11.alloc (.cells #[.int .i64 K2, .int .i64 Z2] 26)) := up_alloc (Below.refl _ _) _
              obtain ⟨w12, hw12⟩ : ∃ w12, w11.alloc (.cells #[.int .i64 K2, .int .i64 Z2] 26) = w12 := ⟨_, rfl⟩
              rw [hw12] at bb
              have M12 := Lib.hid ((M10.out.below b11).below bb)
              have HA12 := Lib.hid ((HA10.out.up b11).up bb)
              have x12 := (X10.out.below b11).below bb
              have t0 : w12.cell? ⟨w9.heap.size, 0, none⟩ = some (.int .i64 k') := x12.cell
              have t1 : w12.cell? ⟨w9.heap.size, 1, none⟩ = some (.int .i64 z') := x12.cell
              have h12 := M12.out.bx.cells
              have o0 := h12.1
              have o1 := h12.2.1
              have o2 := h12.2.2.1
              have o3 := h12.2.2.2.1
              have o4 := h12.2.2.2.2.1
              have o5 := h12.2.2.2.2.2.1
              have o6 := h12.2.2.2.2.2.2.1
              have o7 := h12.2.2.2.2.2.2.2
              have HMv2 := Lib.hid (move_any M12.out.tg HI.out.2.2.1 HI.out.2.2.2 ⟨p, s, k, z⟩)
              simp only [HBk.out.1, HBk.out.2.1] at HMv2
              clear b11 bb x12 h12 r0 r1 HGt2 X10 M10 HA10
              go_wp2_with fail
              clear hw12
              refine HMv2.out.mono ?_
              rintro e w13 ⟨rfl, wr13⟩
              have MX := Lib.hid (M12.out.wrote wr13)
              have HAX := Lib.hid (at_b HA12.out M12.out.tg.mp wr13.2)
              clear wr13 HMv2 M12 HA12 t0 t1 o0 o1 o2 o3 o4 o5 o6 o7
              have e1 : rowOf (ins ⟨p, s, k, z⟩ L) p s = ⟨p, s, k, z⟩ := (ins_row HWL.out HG.out.1 HG.out.2).1
              have e2 : dropE (ins ⟨p, s, k, z⟩ L) p s = 0 := by unfold dropE; rw [if_pos (ins_row HWL.out HG.out.1 HG.out.2).2]
              have e3 : del (ins ⟨p, s, k, z⟩ L) p s = L := del_ins HWL.out HG.out.2
              have HDr := Lib.hid (drop_any MX.out.tg HI.out.1 HI.out.2.1)
              rw [e1, e2, e3] at HDr
              simp only [] at HDr
              have hy := MX.out.bx.cells
              have y0 := hy.1
              have y1 := hy.2.1
              clear e1 e2 e3 hy
              go_wp2_with fail
              refine HDr.out.mono ?_
              rintro e wD ⟨rfl, wrD⟩
              have MD := Lib.hid (MX.out.wrote wrD)
              have HAD := Lib.hid (at_b HAX.out MX.out.tg.mp wrD.2)
              obtain ⟨wE, hwE⟩ : ∃ wE, wD.alloc (.cells #[.int .i64 k, .int .i64 z] 26) = wE := ⟨_, rfl⟩
              have bE : Below wD.heap.size wD wE := by rw [← hwE]; exact up_alloc (Below.refl _ _) _
              have xE : Blk wE wD.heap.size [.int .i64 k, .int .i64 z] 26 := by rw [← hwE]; exact Blk.new wD _ 26
              have ME := Lib.hid (MD.out.below bE)
              have HAE := Lib.hid (HAD.out.up bE)
              have u0 : wE.cell? ⟨wD.heap.size, 0, none⟩ = some (.int .i64 k) := xE.cell
              have u1 : wE.cell? ⟨wD.heap.size, 1, none⟩ = some (.int .i64 z) := xE.cell
              have hyE := ME.out.bx.cells
              have u2 := hyE.2.2.2.2.1
              have u3 := hyE.2.2.2.2.2.1
              clear wrD HDr MD HAD bE xE hyE y0 y1
              go_wp2_with fail
              clear hwE
              refine (rows_any ME.out.tg).mono ?_
              rintro e wF ⟨AF, cF, rfl, atF, bF⟩
              have HBF := Lib.hid (up_trans ME.out.bel bF)
              have HSR := Lib.hid (samerows_any L AF A1 cF ca1 n n wF atF (HAE.out.up bF) (by rw [HLn.out]; omega) HLn.out HLn.out)
              rw [HLn.out]
              clear atF bF u0 u1 u2 u3
              go_wp2_with fail
              refine HSR.out.mono ?_
              rintro e wG ⟨rfl, bG⟩
              have HBG := Lib.hid (up_trans HBF.out bG)
              clear bG
              go_wp2_with fail
              go_ret
              exact ⟨rfl, HBG.out⟩
          · have dq : (p == p') = false := by simpa using q1
            have HMv1 := Lib.hid (move_any M7.out.tg HI.out.1 HI.out.2.1 ⟨p', s', k', z'⟩)
            simp only [] at HMv1
            obtain ⟨ho2, hno2, hml⟩ := mov_good hE2
            have hdl : del (ins ⟨p, s, k, z⟩ L) p s = L := del_ins HWL.out HG.out.2
            rw [hdl] at hno2 hml
            rw [hE2, hml] at HMv1
            simp only [] at hno2
            have hbk := back HWL.out HG.out.1 HG.out.2 ho2 hno2
            simp only [] at hbk
            have hrow : rowOf (ins ⟨p', s', k', z'⟩ L) p' s' = ⟨p', s', k', z'⟩ := (ins_row HWL.out ho2 hno2).1
            have hhas : hasB (ins ⟨p', s', k', z'⟩ L) p' s' = true := (ins_row HWL.out ho2 hno2).2
            have HBk := Lib.hid hbk
            have HRow := Lib.hid hrow
            have HHas := Lib.hid hhas
            clear ho2 hno2 hml hdl hbk hrow hhas hE2
            go_wp2_with fail
            refine HMv1.out.mono ?_
            rintro e w8 ⟨rfl, wr8⟩
            have M8 := Lib.hid (M7.out.wrote wr8)
            have HA8 := Lib.hid (at_b HA7.out M7.out.tg.mp wr8.2)
            have HGt1 := Lib.hid (get_any M8.out.tg HI.out.2.2.1 HI.out.2.2.2)
            rw [HRow.out, HHas.out] at HGt1
            simp only [] at HGt1
            have h8 := M8.out.bx.cells
            have v2 := h8.2.2.1
            have v3 := h8.2.2.2.1
            clear wr8 HMv1 h8 n0 n1 n2 n3 n4 n5 n6 n7 M7 HA7
            go_wp2_with fail
            refine HGt1.out.mono ?_
            rintro e w9 ⟨rfl, b9⟩
            obtain ⟨w10, hw10⟩ : ∃ w10, w9.alloc (.cells #[.int .i64 k', .int .i64 z'] 26) = w10 := ⟨_, rfl⟩
            have b10 : Below w9.heap.size w9 w10 := by rw [← hw10]; exact up_alloc (Below.refl _ _) _
            have x10 : Blk w10 w9.heap.size [.int .i64 k', .int .i64 z'] 26 := by rw [← hw10]; exact Blk.new w9 _ 26
            have M10 := Lib.hid ((M8.out.below b9).below b10)
            have HA10 := Lib.hid ((HA8.out.up b9).up b10)
            have X10 := Lib.hid x10
            have HGt2 := Lib.hid (get_any M10.out.tg HI.out.1 HI.out.2.1)
            rw [HBk.out.2.2] at HGt2
            generalize (rowOf (ins ⟨p', s', k', z'⟩ L) p s).k = K2 at HGt2
            generalize (rowOf (ins ⟨p', s', k', z'⟩ L) p s).z = Z2 at HGt2
            rw [show (p == p' && s == s') = false by simp [q1]] at HGt2
            have h10 := M10.out.bx.cells
            have r0 := h10.1
            have r1 := h10.2.1
            clear b9 b10 x10 h10 v2 v3 HGt1 M8 HA8
            go_wp2_with fail
            clear hw10
            refine HGt2.out.mono ?_
            rintro e w11 ⟨rfl, b11⟩
            have bb : Below w11.heap.size w11 (w11.alloc (.cells #[.int .i64 K2, .int .i64 Z2] 26)) := up_alloc (Below.refl _ _) _
            obtain ⟨w12, hw12⟩ : ∃ w12, w11.alloc (.cells #[.int .i64 K2, .int .i64 Z2] 26) = w12 := ⟨_, rfl⟩
            rw [hw12] at bb
            have M12 := Lib.hid ((M10.out.below b11).below bb)
            have HA12 := Lib.hid ((HA10.out.up b11).up bb)
            have x12 := (X10.out.below b11).below bb
            have t0 : w12.cell? ⟨w9.heap.size, 0, none⟩ = some (.int .i64 k') := x12.cell
            have t1 : w12.cell? ⟨w9.heap.size, 1, none⟩ = some (.int .i64 z') := x12.cell
            have h12 := M12.out.bx.cells
            have o0 := h12.1
            have o1 := h12.2.1
            have o2 := h12.2.2.1
            have o3 := h12.2.2.2.1
            have o4 := h12.2.2.2.2.1
            have o5 := h12.2.2.2.2.2.1
            have o6 := h12.2.2.2.2.2.2.1
            have o7 := h12.2.2.2.2.2.2.2
            have HMv2 := Lib.hid (move_any M12.out.tg HI.out.2.2.1 HI.out.2.2.2 ⟨p, s, k, z⟩)
            simp only [HBk.out.1, HBk.out.2.1] at HMv2
            clear b11 bb x12 h12 r0 r1 HGt2 X10 M10 HA10
            go_wp2_with fail
            clear hw12
            refine HMv2.out.mono ?_
            rintro e w13 ⟨rfl, wr13⟩
            have MX := Lib.hid (M12.out.wrote wr13)
            have HAX := Lib.hid (at_b HA12.out M12.out.tg.mp wr13.2)
            clear wr13 HMv2 M12 HA12 t0 t1 o0 o1 o2 o3 o4 o5 o6 o7
            have e1 : rowOf (ins ⟨p, s, k, z⟩ L) p s = ⟨p, s, k, z⟩ := (ins_row HWL.out HG.out.1 HG.out.2).1
            have e2 : dropE (ins ⟨p, s, k, z⟩ L) p s = 0 := by unfold dropE; rw [if_pos (ins_row HWL.out HG.out.1 HG.out.2).2]
            have e3 : del (ins ⟨p, s, k, z⟩ L) p s = L := del_ins HWL.out HG.out.2
            have HDr := Lib.hid (drop_any MX.out.tg HI.out.1 HI.out.2.1)
            rw [e1, e2, e3] at HDr
            simp only [] at HDr
            have hy := MX.out.bx.cells
            have y0 := hy.1
            have y1 := hy.2.1
            clear e1 e2 e3 hy
            go_wp2_with fail
            refine HDr.out.mono ?_
            rintro e wD ⟨rfl, wrD⟩
            have MD := Lib.hid (MX.out.wrote wrD)
            have HAD := Lib.hid (at_b HAX.out MX.out.tg.mp wrD.2)
            obtain ⟨wE, hwE⟩ : ∃ wE, wD.alloc (.cells #[.int .i64 k, .int .i64 z] 26) = wE := ⟨_, rfl⟩
            have bE : Below wD.heap.size wD wE := by rw [← hwE]; exact up_alloc (Below.refl _ _) _
            have xE : Blk wE wD.heap.size [.int .i64 k, .int .i64 z] 26 := by rw [← hwE]; exact Blk.new wD _ 26
            have ME := Lib.hid (MD.out.below bE)
            have HAE := Lib.hid (HAD.out.up bE)
            have u0 : wE.cell? ⟨wD.heap.size, 0, none⟩ = some (.int .i64 k) := xE.cell
            have u1 : wE.cell? ⟨wD.heap.size, 1, none⟩ = some (.int .i64 z) := xE.cell
            have hyE := ME.out.bx.cells
            have u2 := hyE.2.2.2.2.1
            have u3 := hyE.2.2.2.2.2.1
            clear wrD HDr MD HAD bE xE hyE y0 y1
            go_wp2_with fail
            clear hwE
            refine (rows_any ME.out.tg).mono ?_
            rintro e wF ⟨AF, cF, rfl, atF, bF⟩
            have HBF := Lib.hid (up_trans ME.out.bel bF)
            have HSR := Lib.hid (samerows_any L AF A1 cF ca1 n n wF atF (HAE.out.up bF) (by rw [HLn.out]; omega) HLn.out HLn.out)
            rw [HLn.out]
            clear atF bF u0 u1 u2 u3
            go_wp2_with fail
            refine HSR.out.mono ?_
            rintro e wG ⟨rfl, bG⟩
            have HBG := Lib.hid (up_trans HBF.out bG)
            clear bG
            go_wp2_with fail
            go_ret
            exact ⟨rfl, HBG.out⟩
        · have HMv1 := Lib.hid (move_any M7.out.tg HI.out.1 HI.out.2.1 ⟨p', s', k', z'⟩)
          simp only [] at HMv1
          have hpl := mov_bad hE2
          obtain ⟨E, hEE⟩ : ∃ E, movE (ins ⟨p, s, k, z⟩ L) p s ⟨p', s', k', z'⟩ = E := ⟨_, rfl⟩
          rw [hEE, hpl] at HMv1
          rw [hEE] at hE2
          have hne : (E == 0) = false := by simpa using hE2
          clear hpl hEE hE2
          go_wp2_with fail
          refine HMv1.out.mono ?_
          rintro e w8 ⟨rfl, wr8⟩
          have MX := Lib.hid (M7.out.wrote wr8)
          have HAX := Lib.hid (at_b HA7.out M7.out.tg.mp wr8.2)
          clear wr8 HMv1 n0 n1 n2 n3 n4 n5 n6 n7 M7 HA7
          have e1 : rowOf (ins ⟨p, s, k, z⟩ L) p s = ⟨p, s, k, z⟩ := (ins_row HWL.out HG.out.1 HG.out.2).1
          have e2 : dropE (ins ⟨p, s, k, z⟩ L) p s = 0 := by unfold dropE; rw [if_pos (ins_row HWL.out HG.out.1 HG.out.2).2]
          have e3 : del (ins ⟨p, s, k, z⟩ L) p s = L := del_ins HWL.out HG.out.2
          have HDr := Lib.hid (drop_any MX.out.tg HI.out.1 HI.out.2.1)
          rw [e1, e2, e3] at HDr
          simp only [] at HDr
          have hy := MX.out.bx.cells
          have y0 := hy.1
          have y1 := hy.2.1
          clear e1 e2 e3 hy
          go_wp2_with fail
          refine HDr.out.mono ?_
          rintro e wD ⟨rfl, wrD⟩
          have MD := Lib.hid (MX.out.wrote wrD)
          have HAD := Lib.hid (at_b HAX.out MX.out.tg.mp wrD.2)
          obtain ⟨wE, hwE⟩ : ∃ wE, wD.alloc (.cells #[.int .i64 k, .int .i64 z] 26) = wE := ⟨_, rfl⟩
          have bE : Below wD.heap.size wD wE := by rw [← hwE]; exact up_alloc (Below.refl _ _) _
          have xE : Blk wE wD.heap.size [.int .i64 k, .int .i64 z] 26 := by rw [← hwE]; exact Blk.new wD _ 26
          have ME := Lib.hid (MD.out.below bE)
          have HAE := Lib.hid (HAD.out.up bE)
          have u0 : wE.cell? ⟨wD.heap.size, 0, none⟩ = some (.int .i64 k) := xE.cell
          have u1 : wE.cell? ⟨wD.heap.size, 1, none⟩ = some (.int .i64 z) := xE.cell
          have hyE := ME.out.bx.cells
          have u2 := hyE.2.2.2.2.1
          have u3 := hyE.2.2.2.2.2.1
          clear wrD HDr MD HAD bE xE hyE y0 y1
          go_wp2_with fail
          clear hwE
          refine (rows_any ME.out.tg).mono ?_
          rintro e wF ⟨AF, cF, rfl, atF, bF⟩
          have HBF := Lib.hid (up_trans ME.out.bel bF)
          have HSR := Lib.hid (samerows_any L AF A1 cF ca1 n n wF atF (HAE.out.up bF) (by rw [HLn.out]; omega) HLn.out HLn.out)
          rw [HLn.out]
          clear atF bF u0 u1 u2 u3
          go_wp2_with fail
          refine HSR.out.mono ?_
          rintro e wG ⟨rfl, bG⟩
          have HBG := Lib.hid (up_trans HBF.out bG)
          clear bG
          go_wp2_with fail
          go_ret
          exact ⟨rfl, HBG.out⟩
      · have hpl := put_bad hE
        obtain ⟨E, hE2⟩ : ∃ E, putE L ⟨p, s, k, z⟩ = E := ⟨_, rfl⟩
        rw [hE2, hpl] at HPut
        rw [hE2] at hE
        have hne : (E != 0) = true := by simpa using hE
        clear hpl hE2 hE
        go_wp2_with fail
        refine HPut.out.mono ?_
        rintro e w6 ⟨rfl, wr6⟩
        have M6 := Lib.hid (M5.out.wrote wr6)
        have HA6 := Lib.hid (at_b HA1.out M5.out.tg.mp wr6.2)
        clear wr6 HPut M5 HA1 k0 k1 k2 k3 k4 k5 k6 k7
        go_wp2_with fail
        refine (rows_any M6.out.tg).mono ?_
        rintro e w7 ⟨A2, ca2, rfl, at2, b7⟩
        have HB7 := Lib.hid (up_trans M6.out.bel b7)
        have HSR := Lib.hid (samerows_any L A2 A1 ca2 ca1 n n w7 at2 (HA6.out.up b7) (by rw [HLn.out]; omega) HLn.out HLn.out)
        rw [HLn.out]
        clear at2 b7
        go_wp2_with fail
        refine HSR.out.mono ?_
        rintro e w8 ⟨rfl, b8⟩
        have HB8 := Lib.hid (up_trans HB7.out b8)
        clear b8
        go_wp2_with fail
        go_ret
        exact ⟨rfl, HB8.out⟩
end Go.Proofs.Ytbgacchbldgaeaa
