/-
  What the statements' told does, where nothing is to be done, and where bytes are written: contracts that the claimed proofs use.
-/
import Derived.Test.YtdkjbidnelbdeaaRefPut
namespace Go.Proofs.Ytdkjbidnelbdeaa
open Go.RowKit

/-- A call that is told, as it lies in a block of its own. -/
def Box (w : World) (H : Nat) (what s n f k : Int) (v : BitVec 64) (X : Option Addr) (m d : Nat) : Prop :=
  w.heap[H]? = some (.cells #[.int .i64 what, .int .i64 s, .int .i64 n, .int .i64 f, .int .i64 k, .int .u64 (u v), .slice X m d] 34 (0, 0))
theorem Box.cells {w : World} {H : Nat} {what s n f k : Int} {v : BitVec 64} {X : Option Addr} {m d : Nat} (h : Box w H what s n f k v X m d) :
    w.cell? ⟨H, 0, none⟩ = some (.int .i64 what) ∧ w.cell? ⟨H, 1, none⟩ = some (.int .i64 s) ∧ w.cell? ⟨H, 2, none⟩ = some (.int .i64 n) ∧ w.cell? ⟨H, 3, none⟩ = some (.int .i64 f) ∧
    w.cell? ⟨H, 4, none⟩ = some (.int .i64 k) ∧ w.cell? ⟨H, 5, none⟩ = some (.int .u64 (u v)) ∧ w.cell? ⟨H, 6, none⟩ = some (.slice X m d) := by
  refine ⟨?_, ?_, ?_, ?_, ?_, ?_, ?_⟩ <;> (rw [cell_of_row w H _ _ 34 (0, 0) h]; rfl)
theorem Box.lt {w : World} {H : Nat} {what s n f k : Int} {v : BitVec 64} {X : Option Addr} {m d : Nat} (h : Box w H what s n f k v X m d) : H < w.heap.size := (Array.getElem?_eq_some_iff.1 h).1
theorem Box.below {w w' : World} {H : Nat} {what s n f k : Int} {v : BitVec 64} {X : Option Addr} {m d : Nat} (h : Box w H what s n f k v X m d) (hb : Below w.heap.size w w') : Box w' H what s n f k v X m d := (hb.block H h.lt).trans h
theorem Box.far {w w' : World} {H g : Nat} {what s n f k : Int} {v : BitVec 64} {X : Option Addr} {m d : Nat} (h : Box w H what s n f k v X m d) (hb : w.grownBy w' (some g)) (hg : H ≠ g) : Box w' H what s n f k v X m d := (hb.block H h.lt (by simpa using hg)).trans h
theorem Box.made (w : World) (what s n f k : Int) (v : BitVec 64) (X : Option Addr) (m d : Nat) :
    Box (w.alloc (.cells #[.int .i64 what, .int .i64 s, .int .i64 n, .int .i64 f, .int .i64 k, .int .u64 (u v), .slice X m d] 34)) w.heap.size what s n f k v X m d := heap_alloc_new w _
theorem BA.far {w w' : World} {g : Nat} {b : Nat} {bs : List (BitVec 8)} (h : BA w.heap.size w (some ⟨b, 0, none⟩) bs) (hb : w.grownBy w' (some g)) (hg : b ≠ g) : BA w'.heap.size w' (some ⟨b, 0, none⟩) bs := fun hp => by
  obtain ⟨b', o, e, hlt, hc⟩ := h hp
  cases e
  exact ⟨b, 0, rfl, Nat.lt_of_lt_of_le hlt hb.size, fun j hj => (World.cell?_of_block (w := w) (hb.block b hlt (by simpa using hg))).trans (hc j hj)⟩
theorem BA.farN {N : Nat} {w w' : World} {g : Nat} {A : Option Addr} {bs : List (BitVec 8)} (h : BA N w A bs) (hb : w.grownBy w' (some g)) (hg : N ≤ g) (hN : N ≤ w.heap.size) : BA N w' A bs :=
  h.below ((Below.refl N w).grown hb hN (fun k e => by cases e; exact hg))

/-- What is left behind told. -/
def ToldPost (N q g L : Nat) (w : World) (e : Ending) (w' : World) : Prop :=
  ∃ bs' b' c', List.length (α := BitVec 8) bs' = L ∧ e = .returned (.tuple #[.slice (some ⟨b', 0, none⟩) L c', .bool true]) ∧ L ≤ c' ∧ b' ≠ g ∧ Mem w' q g bs' ∧ BA w'.heap.size w' (some ⟨b', 0, none⟩) bs' ∧ Below N w w'

set_option maxRecDepth 100000 in
set_option maxHeartbeats 2000000 in
theorem told_other (q g b c N : Nat) (bs : List (BitVec 8)) (what s n f k : Int) (v : BitVec 64) (X : Option Addr) (m d : Nat) (w : World) (hm : Mem w q g bs) (hb : BA w.heap.size w (some ⟨b, 0, none⟩) bs) (hc : bs.length ≤ c) (hg : b ≠ g) (hN : N ≤ w.heap.size)
    (h0 : what ≠ 0) (h1 : what ≠ 1) (h2 : what ≠ 2) (h3 : what ≠ 3) :
    Calls Try.prog 9 #[.pointer (some ⟨q, 0, none⟩), .slice (some ⟨b, 0, none⟩) bs.length c, .agg #[.int .i64 what, .int .i64 s, .int .i64 n, .int .i64 f, .int .i64 k, .int .u64 (u v), .slice X m d]] w (ToldPost N q g bs.length w) := by
  have HM := Lib.hid hm
  have HB := Lib.hid hb
  have HG := Lib.hid hg
  have e0 : (what == 0) = false := by simpa using h0
  have e1 : (what == 1) = false := by simpa using h1
  have e2 : (what == 2) = false := by simpa using h2
  have e3 : (what == 3) = false := by simpa using h3
  clear hm hb hg h0 h1 h2 h3
  go_enter Try.func9, Try.ntmps9
  go_wp2
  go_ret2
  exact ⟨bs, b, c, rfl, rfl, hc, HG.out, HM.out.below (up_alloc (Below.refl _ _) _), (HB.out.below (up_alloc (Below.refl _ _) _)).more (by simp), (Below.refl _ w).alloc hN _⟩

set_option maxRecDepth 100000 in
set_option maxHeartbeats 2000000 in
theorem told1_no (q g b c N : Nat) (bs : List (BitVec 8)) (s n f k : Int) (v : BitVec 64) (X : Option Addr) (m d : Nat) (w : World) (hm : Mem w q g bs) (hb : BA w.heap.size w (some ⟨b, 0, none⟩) bs) (hc : bs.length ≤ c) (hg : b ≠ g) (hN : N ≤ w.heap.size) (hs : s ≤ 9223372036854775807)
    (hno : hasB bs.length s m = false) :
    Calls Try.prog 9 #[.pointer (some ⟨q, 0, none⟩), .slice (some ⟨b, 0, none⟩) bs.length c, .agg #[.int .i64 1, .int .i64 s, .int .i64 n, .int .i64 f, .int .i64 k, .int .u64 (u v), .slice X m d]] w (ToldPost N q g bs.length w) := by
  have HB := Lib.hid hb
  have HG := Lib.hid hg
  have m1 := hm.below (up_alloc (Below.refl _ _) (.cells #[.int .i64 1, .int .i64 s, .int .i64 n, .int .i64 f, .int .i64 k, .int .u64 (u v), .slice X m d] 34))
  have hL := hm.2.2
  have HM := Lib.hid m1
  clear hm hb hg m1
  go_enter Try.func9, Try.ntmps9
  go_wp2_with fail
  refine (rput_no _ X _ c m d s _ hL hs hno).mono ?_
  rintro e w2 ⟨rfl, rfl⟩
  go_wp2_with fail
  refine (write_no _ _ _ s X m d _ HM.out.cell hL hs hno).mono ?_
  rintro e w2 ⟨rfl, rfl⟩
  go_wp2
  go_ret2
  exact ⟨bs, b, c, rfl, rfl, hc, HG.out, HM.out, (HB.out.below (up_alloc (Below.refl _ _) _)).more (by simp), (Below.refl _ w).alloc hN _⟩

set_option maxRecDepth 100000 in
set_option maxHeartbeats 2000000 in
theorem told1_yes (q g b c N s : Nat) (bs xs : List (BitVec 8)) (n f k : Int) (v : BitVec 64) (X : Option Addr) (d : Nat) (w : World) (hm : Mem w q g bs) (hb : BA w.heap.size w (some ⟨b, 0, none⟩) bs) (hc : bs.length ≤ c) (hN : N ≤ w.heap.size) (hNg : N ≤ g)
    (hx : BA N w X xs) (hX : X = none → xs.length = 0 ∧ d = 0) (hh : s + xs.length ≤ bs.length) :
    Calls Try.prog 9 #[.pointer (some ⟨q, 0, none⟩), .slice (some ⟨b, 0, none⟩) bs.length c, .agg #[.int .i64 1, .int .i64 (s : Int), .int .i64 n, .int .i64 f, .int .i64 k, .int .u64 (u v), .slice X xs.length d]] w (ToldPost N q g bs.length w) := by
  have hL := hm.2.2
  have hbox := Box.made w 1 s n f k v X xs.length d
  have hal : Below w.heap.size w (w.alloc (.cells #[.int .i64 1, .int .i64 (s : Int), .int .i64 n, .int .i64 f, .int .i64 k, .int .u64 (u v), .slice X xs.length d] 34)) := up_alloc (Below.refl _ _) _
  have m1 := hm.below hal
  have b1 := (hb.below hal).more hal.size
  have x1 := (hx.below (hal.mono hN))
  have hgl := hm.2.1.lt
  have HM := Lib.hid m1
  have HB := Lib.hid b1
  have HX := Lib.hid x1
  have HXN := Lib.hid hX
  have HAL := Lib.hid hal
  have HBX := Lib.hid hbox
  clear hm hb hx hX m1 b1 x1 hbox hal
  go_enter Try.func9, Try.ntmps9
  go_wp2_with fail
  refine (rput_yes b 0 X bs xs c s d _ HB.out (HX.out.more (Nat.le_trans hN HAL.out.size)) HXN.out hL hc hh).mono ?_
  rintro e w2 ⟨g2, cap2, rfl, hc2, hg2, ba2, be2⟩
  have m2 := HM.out.below be2
  have x2 := HX.out.below (be2.mono (Nat.le_trans hN HAL.out.size))
  have bx2 := HBX.out.below be2
  obtain ⟨_, k1, _, _, _, _, k6⟩ := bx2.cells
  have hne : g2 ≠ g := by have := HAL.out.size; omega
  have BE := Lib.hid (HAL.out.trans (be2.mono HAL.out.size))
  have BA2 := Lib.hid ba2
  have HNE := Lib.hid hne
  clear be2 ba2 hne
  go_wp2_with fail
  refine (write_yes q g bs xs s X d _ m2 hh (fun hp => by obtain ⟨b', o', e, _, h⟩ := x2 hp; exact ⟨b', o', e, h⟩)).mono ?_
  rintro e w3 ⟨rfl, m3, g3⟩
  go_wp2
  go_ret2
  have hsl := splice_length hh
  exact ⟨splice bs s xs, g2, cap2, hsl, by rw [hsl]; rfl, by rw [← hsl]; exact hc2, HNE.out, m3, BA2.out.far g3 HNE.out, below_grown (BE.out.mono hN) g3 (by have := BE.out.size; omega) hNg⟩

end Go.Proofs.Ytdkjbidnelbdeaa
