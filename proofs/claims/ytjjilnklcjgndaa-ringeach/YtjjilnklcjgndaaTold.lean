/-
  What the statements' told does: a contract that the claimed proofs use.
-/
import Derived.Test.YtjjilnklcjgndaaRefOps
namespace Go.Proofs.Ytjjilnklcjgndaa
open Go.RowKit

/-- Both hold the same lists. -/
structure Both (w : World) (p : Pl) (g : Nat) (L : Nat → List Nat) : Prop where
  ring : Ring w p L
  ref : Ref w g p.n p.m L
  le : p.hi ≤ g
theorem Both.below {w w' : World} {p : Pl} {g : Nat} {L : Nat → List Nat} (h : Both w p g L) (hb : Below w.heap.size w w') : Both w' p g L := ⟨h.ring.below hb, h.ref.below hb, h.le⟩
/-- A call that came in, in its box. -/
def Box (w : World) (H : Nat) (a b c : Int) : Prop := Blk w H [.int .i64 a, .int .i64 b, .int .i64 c] 34
theorem Box.made (w : World) (a b c : Int) : Box (w.alloc (.cells #[.int .i64 a, .int .i64 b, .int .i64 c] 34)) w.heap.size a b c := heap_alloc_new w _
theorem Box.drew {w : World} {H : Nat} {a b c : Int} (h : Box w H a b c) : Box w.drew H a b c := h
theorem Box.two {w : World} {H : Nat} {a b c : Int} (h : Box w H a b c) : w.cell? ⟨H, 1, none⟩ = some (.int .i64 b) ∧ w.cell? ⟨H, 2, none⟩ = some (.int .i64 c) := ⟨Blk.cell h, Blk.cell h⟩
theorem Box.chg {w w' : World} {H lo hi : Nat} {a b c : Int} (h : Box w H a b c) (hc : Chg lo hi w w') (hh : hi ≤ H) : Box w' H a b c := Blk.of h (hc.block H (Blk.lt h) (.inr hh))
/-- The blocks of the lists and the block that names the references' lists alone may have changed. -/
def Two (p : Pl) (g : Nat) (w w' : World) : Prop := ∀ k, k < w.heap.size → k < p.lo ∨ p.hi ≤ k → k ≠ g → w'.heap[k]? = w.heap[k]?
/-- What told leaves. -/
def Told (p : Pl) (g : Nat) (w : World) (e : Ending) (w' : World) : Prop := e = .returned (.bool true) ∧ (∃ L, Both w' p g L) ∧ Chg p.lo (g + 1) w w' ∧ Two p g w w' ∧ Newer g w w'
theorem told_end {p : Pl} {g : Nat} {w W w2 w3 : World} {L L' : Nat → List Nat} (hb : Both w p g L) (h0 : Below w.heap.size w W) (c2 : Chg p.lo p.hi W w2) (r2 : Ring w2 p L') (c3 : Chg g (g + 1) w2 w3) (r3 : Ref w3 g p.n p.m L') (n3 : Newer g w2 w3) :
    (∃ L, Both w3 p g L) ∧ Chg p.lo (g + 1) w w3 ∧ Two p g w w3 ∧ Newer g w w3 := by
  have hlh : p.lo ≤ p.hi := by have := hb.ring.ok.q1; omega
  have hle := hb.le
  refine ⟨⟨L', r2.far c3 (.inl hle), r3, hle⟩, ((Chg.of h0).trans (c2.wide (Nat.le_refl _) (by omega))).trans (c3.wide (by omega) (Nat.le_refl _)), fun k hk h1 h2 => ?_, ?_⟩
  · have k1 : k < W.heap.size := Nat.lt_of_lt_of_le hk h0.size
    exact ((c3.block k (Nat.lt_of_lt_of_le k1 c2.size) (by omega)).trans (c2.block k k1 h1)).trans (h0.block k hk)
  · have g1 : g < w.heap.size := by have := hb.ref.sz; omega
    have g2 : g < W.heap.size := Nat.lt_of_lt_of_le g1 h0.size
    exact (Newer.of ((c2.block g g2 (.inr hle)).trans (h0.block g g1))).trans n3 (Nat.le_trans h0.size c2.size)
set_option maxHeartbeats 2000000 in
theorem told0 {p : Pl} {g : Nat} {L : Nat → List Nat} {w : World} (li it : Int) (hb : Both w p g L) :
    Calls Try.prog 10 #[.pointer (some ⟨p.q, 0, none⟩), .pointer (some ⟨g + 1, 0, none⟩), .agg #[.int .i64 0, .int .i64 li, .int .i64 it]] w (Told p g w) := by
  obtain ⟨E, L', hp⟩ := putR_some p.n p.m L li it true
  have HB := Lib.hid hb
  have HP := Lib.hid hp
  have hal : Below w.heap.size w (w.alloc (.cells #[.int .i64 0, .int .i64 li, .int .i64 it] 34)).drew := (up_alloc (Below.refl _ _) _).drew
  have HAl := Lib.hid hal
  have HBox := Lib.hid (Box.made w 0 li it).drew
  have hH : p.hi ≤ w.heap.size := hb.ring.sz
  have hH2 : g + 1 ≤ w.heap.size := by have := hb.ref.sz; omega
  have q1 := (Box.made w 0 li it).two
  obtain ⟨q1, q2⟩ := q1
  clear hb hp hal
  go_enter Try.func10, Try.ntmps10
  go_wp2_with fail
  go_region_held3 (fun W => W.cell? ⟨w.heap.size, 1, none⟩ = some (.int .i64 li) ∧ W.cell? ⟨w.heap.size, 2, none⟩ = some (.int .i64 it))
    (first | exact ((HBox.out.chg c2 hH).chg c3 hH2).two | exact (HBox.out.chg c2 hH).two | exact HBox.out.two)
    ((first
      | (go_at_call 21; refine (push_r (HB.out.ring.below HAl.out) HP.out).mono ?_; rintro e w2 ⟨rfl, r2, c2⟩)
      | (go_at_call 26; refine (rput_r ((HB.out.ref.below HAl.out).far c2 HB.out.le) HB.out.ring.good HB.out.ring.ok.m1 HB.out.ring.ok.n1 HP.out).mono ?_; rintro e w3 ⟨rfl, r3, c3, n3⟩)))
  go_wp2
  go_ret
  exact ⟨rfl, told_end HB.out HAl.out c2 r2 c3 r3 n3⟩
set_option maxHeartbeats 2000000 in
theorem told1 {p : Pl} {g : Nat} {L : Nat → List Nat} {w : World} (li it : Int) (hb : Both w p g L) :
    Calls Try.prog 10 #[.pointer (some ⟨p.q, 0, none⟩), .pointer (some ⟨g + 1, 0, none⟩), .agg #[.int .i64 1, .int .i64 li, .int .i64 it]] w (Told p g w) := by
  obtain ⟨E, L', hp⟩ := putR_some p.n p.m L li it false
  have HB := Lib.hid hb
  have HP := Lib.hid hp
  have hal : Below w.heap.size w (w.alloc (.cells #[.int .i64 1, .int .i64 li, .int .i64 it] 34)).drew := (up_alloc (Below.refl _ _) _).drew
  have HAl := Lib.hid hal
  have HBox := Lib.hid (Box.made w 1 li it).drew
  have hH : p.hi ≤ w.heap.size := hb.ring.sz
  have hH2 : g + 1 ≤ w.heap.size := by have := hb.ref.sz; omega
  clear hb hp hal
  go_enter Try.func10, Try.ntmps10
  go_wp2_with fail
  go_region_held3 (fun W => W.cell? ⟨w.heap.size, 1, none⟩ = some (.int .i64 li) ∧ W.cell? ⟨w.heap.size, 2, none⟩ = some (.int .i64 it))
    (first | exact ((HBox.out.chg c2 hH).chg c3 hH2).two | exact (HBox.out.chg c2 hH).two | exact HBox.out.two)
    ((first
      | (go_at_call 22; refine (append_r (HB.out.ring.below HAl.out) HP.out).mono ?_; rintro e w2 ⟨rfl, r2, c2⟩)
      | (go_at_call 26; refine (rput_r ((HB.out.ref.below HAl.out).far c2 HB.out.le) HB.out.ring.good HB.out.ring.ok.m1 HB.out.ring.ok.n1 HP.out).mono ?_; rintro e w3 ⟨rfl, r3, c3, n3⟩)))
  go_wp2
  go_ret
  exact ⟨rfl, told_end HB.out HAl.out c2 r2 c3 r3 n3⟩
set_option maxHeartbeats 2000000 in
theorem told2 {p : Pl} {g : Nat} {L : Nat → List Nat} {w : World} (li it : Int) (hb : Both w p g L) :
    Calls Try.prog 10 #[.pointer (some ⟨p.q, 0, none⟩), .pointer (some ⟨g + 1, 0, none⟩), .agg #[.int .i64 2, .int .i64 li, .int .i64 it]] w (Told p g w) := by
  obtain ⟨E, L', hp⟩ := remR_some p.n L it
  have HB := Lib.hid hb
  have HP := Lib.hid hp
  have hal : Below w.heap.size w (w.alloc (.cells #[.int .i64 2, .int .i64 li, .int .i64 it] 34)).drew := (up_alloc (Below.refl _ _) _).drew
  have HAl := Lib.hid hal
  have HBox := Lib.hid (Box.made w 2 li it).drew
  have hH : p.hi ≤ w.heap.size := hb.ring.sz
  have hH2 : g + 1 ≤ w.heap.size := by have := hb.ref.sz; omega
  clear hb hp hal
  go_enter Try.func10, Try.ntmps10
  go_wp2_with fail
  go_region_held3 (fun W => W.cell? ⟨w.heap.size, 2, none⟩ = some (.int .i64 it))
    (first | exact ((HBox.out.chg c2 hH).chg c3 hH2).two.2 | exact (HBox.out.chg c2 hH).two.2 | exact HBox.out.two.2)
    ((first
      | (go_at_call 24; refine (remove_r (HB.out.ring.below HAl.out) HP.out).mono ?_; rintro e w2 ⟨rfl, r2, c2⟩)
      | (go_at_call 27; refine (rrem_r ((HB.out.ref.below HAl.out).far c2 HB.out.le) HB.out.ring.good HB.out.ring.ok.m1 HB.out.ring.ok.n1 HP.out).mono ?_; rintro e w3 ⟨rfl, r3, c3, n3⟩)))
  go_wp2
  go_ret
  exact ⟨rfl, told_end HB.out HAl.out c2 r2 c3 r3 n3⟩
set_option maxHeartbeats 2000000 in
theorem told3 {p : Pl} {g : Nat} {L : Nat → List Nat} {w : World} (li it : Int) (hb : Both w p g L) :
    Calls Try.prog 10 #[.pointer (some ⟨p.q, 0, none⟩), .pointer (some ⟨g + 1, 0, none⟩), .agg #[.int .i64 3, .int .i64 li, .int .i64 it]] w (Told p g w) := by
  have hal : Below w.heap.size w (w.alloc (.cells #[.int .i64 3, .int .i64 li, .int .i64 it] 34)) := up_alloc (Below.refl _ _) _
  have hb1 := hb.below hal
  have hbox := Box.made w 3 li it
  have HB := Lib.hid hb
  have HAl := Lib.hid hal
  have hH : p.hi ≤ w.heap.size := hb.ring.sz
  have HBox := Lib.hid hbox
  obtain ⟨W, hW⟩ : ∃ W, w.alloc (.cells #[.int .i64 3, .int .i64 li, .int .i64 it] 34) = W := ⟨_, rfl⟩
  rw [hW] at hb1 HAl HBox
  have HB1 := Lib.hid hb1
  have HW := Lib.hid hW
  have HA := Lib.hid (rall_r (i := li) hb1.ref hb1.ring.good)
  clear hb hal hb1 hbox hW
  cases hl : of L li with
  | nil =>
    have HPop := Lib.hid (pop_none HB1.out.ring hl)
    rw [hl] at HA
    clear hl
    go_enter Try.func10, Try.ntmps10
    go_wp2_with fail
    rw [HW.out]
    refine HA.out.mono ?_
    rintro e w2 ⟨⟨v, rfl, hs⟩, rfl⟩
    obtain ⟨A, c, rfl, _⟩ := hs
    have q1 := HBox.out.two.1
    go_wp2_with fail
    refine HPop.out.mono ?_
    rintro e w2 ⟨rfl, rfl⟩
    go_wp2
    go_ret
    exact ⟨rfl, ⟨L, HB1.out⟩, Chg.of HAl.out, fun k hk _ _ => HAl.out.block k hk, Newer.of (HAl.out.block g (by have := HB.out.ref.sz; omega))⟩
  | cons X r =>
    obtain ⟨I, rfl⟩ : ∃ I : Nat, li = (I : Int) := by
      unfold of at hl
      split at hl
      · rename_i h0; exact ⟨_, Int.eq_natAbs_of_nonneg h0⟩
      · simp at hl
    rw [of_nat] at hl
    have HPop := Lib.hid (pop_some HB1.out.ring hl)
    rw [of_nat] at HA
    have HL := Lib.hid hl
    clear hl
    go_enter Try.func10, Try.ntmps10
    go_wp2_with fail
    rw [HW.out]
    refine HA.out.mono ?_
    rintro e w2 ⟨⟨v, rfl, hs⟩, rfl⟩
    rw [HL.out] at hs
    obtain ⟨A, c, rfl, _, _, _, hc⟩ := hs
    obtain ⟨b, rfl, hb, hb2, hc⟩ := hc (by simp)
    have c0 : W.cell? ⟨b, 0, none⟩ = some (.int .i64 (X : Int)) := hc 0 (by simp)
    have HSz : Hid (g + 2 ≤ b ∧ b < W.heap.size) := ⟨hb, hb2⟩
    have hlen : (X :: r).length = r.length + 1 := rfl
    rw [hlen]
    obtain ⟨k, hk⟩ : ∃ k, r.length = k := ⟨_, rfl⟩
    rw [hk]
    have q1 := HBox.out.two.1
    clear hc hk hlen hb hb2
    go_wp2_with fail
    refine HPop.out.mono ?_
    rintro e w2 ⟨rfl, r2, c2⟩
    have R2 := Lib.hid r2
    have C2 := Lib.hid c2
    have c0' : w2.cell? ⟨b, 0, none⟩ = some (.int .i64 (X : Int)) := (cell_same (c2.block b HSz.out.2 (.inr (by have := HB.out.le; have := HSz.out.1; omega)))).trans c0
    have HRem : Hid (Calls Try.prog 27 #[.pointer (some ⟨g + 1, 0, none⟩), .int .i64 (X : Int)] w2 fun e w' => e = .returned (.int .i64 0) ∧ Ref w' g p.n p.m (up L I r) ∧ Chg g (g + 1) w2 w' ∧ Newer g w2 w') :=
      rrem_r (HB1.out.ref.far c2 HB.out.le) HB.out.ring.good HB.out.ring.ok.m1 HB.out.ring.ok.n1 (.inr (.inr ⟨X, I, [], r, rfl, HL.out, rfl, rfl⟩))
    clear r2 c2 c0 q1
    go_wp2_with (go_at_call 27; refine HRem.out.mono ?_; rintro e w3 ⟨rfl, r3, c3, n3⟩)
    go_ret
    exact ⟨rfl, told_end HB.out HAl.out C2.out R2.out c3 r3 n3⟩
theorem toldn {p : Pl} {g : Nat} {L : Nat → List Nat} {w : World} (wh li it : Int) (hb : Both w p g L) (h : ¬ (wh = 0 ∨ wh = 1 ∨ wh = 2 ∨ wh = 3)) :
    Calls Try.prog 10 #[.pointer (some ⟨p.q, 0, none⟩), .pointer (some ⟨g + 1, 0, none⟩), .agg #[.int .i64 wh, .int .i64 li, .int .i64 it]] w (Told p g w) := by
  have HB := Lib.hid hb
  have h0 : (wh == 0) = false := by simp; omega
  have h1 : (wh == 1) = false := by simp; omega
  have h2 : (wh == 2) = false := by simp; omega
  have h3 : (wh == 3) = false := by simp; omega
  clear hb h
  go_enter Try.func10, Try.ntmps10
  go_wp2
  go_ret
  exact ⟨rfl, ⟨L, HB.out.below (up_alloc (Below.refl _ _) _)⟩, Chg.of (up_alloc (Below.refl _ _) _), fun k hk _ _ => (up_alloc (Below.refl _ _) _).block k hk, Newer.of ((up_alloc (Below.refl _ _) _).block g (by have := HB.out.ref.sz; omega))⟩
theorem told_any {p : Pl} {g : Nat} {L : Nat → List Nat} {w : World} (wh li it : Int) (hb : Both w p g L) :
    Calls Try.prog 10 #[.pointer (some ⟨p.q, 0, none⟩), .pointer (some ⟨g + 1, 0, none⟩), .agg #[.int .i64 wh, .int .i64 li, .int .i64 it]] w (Told p g w) := by
  by_cases h : wh = 0 ∨ wh = 1 ∨ wh = 2 ∨ wh = 3
  · rcases h with rfl | rfl | rfl | rfl
    · exact told0 li it hb
    · exact told1 li it hb
    · exact told2 li it hb
    · exact told3 li it hb
  · exact toldn wh li it hb h
end Go.Proofs.Ytjjilnklcjgndaa
