/-
  What a slab is in memory, and what it is asked: laws and contracts that the claimed proofs use.
-/
import Derived.Test.YtaelfgdiboekpaaDoorNsWord
namespace Go.Proofs.YtaelfgdiboekpaaDoor.Ns
set_option maxRecDepth 100000
open Go.RowKit
open Ce (u ldW Mem)
open Bi (Blk Drawn hasB hasB_iff hasB_not up_alloc up_drew up_trans i64_in ret_i ret_b grown_refl grown_trans grown_below)

theorem ret_ib {a b : Int} {c d : Bool} (h : a = b) (h2 : c = d) : Ending.returned (.tuple #[.int .i64 a, .bool c]) = .returned (.tuple #[.int .i64 b, .bool d]) := by rw [h, h2]
theorem ret_ii {a b c d : Int} (h : a = b) (h2 : c = d) : Ending.returned (.tuple #[.int .i64 a, .int .i64 c]) = .returned (.tuple #[.int .i64 b, .int .i64 d]) := by rw [h, h2]
/-! ### Kinds of blocks -/
/-- Of what kind a block is; 0: it is no row of cells. -/
def kind (w : World) (k : Nat) : Nat := match w.heap[k]? with
  | some (.cells _ t _) => t
  | _ => 0
theorem kind_of {w : World} {k t : Nat} {a : Array Value} {fr : Nat × Nat} (h : w.heap[k]? = some (.cells a t fr)) : kind w k = t := by unfold kind; rw [h]
theorem kind_blk {w : World} {g : Nat} {vs : List Value} {t : TypeId} (h : Blk w g vs t) : kind w g = t := kind_of h
theorem kne {w : World} {a b x y : Nat} (h1 : kind w a = x) (h2 : kind w b = y) (h : x ≠ y) : a ≠ b := fun e => h (by rw [← h1, ← h2, e])
theorem kind_below {w w' : World} {k : Nat} (h : k < w.heap.size) (hb : Below w.heap.size w w') : kind w' k = kind w k := by unfold kind; rw [hb.block k h]
/-! ### Frames -/
/-- Two blocks alone may have changed. -/
structure Fr (s g : Nat) (w w' : World) : Prop where
  os : w'.os = w.os
  tape : w'.tape = w.tape
  output : w'.output = w.output
  size : w.heap.size ≤ w'.heap.size
  block : ∀ k, k < w.heap.size → k ≠ s → k ≠ g → w'.heap[k]? = w.heap[k]?
theorem Fr.refl (s g : Nat) (w : World) : Fr s g w w := ⟨rfl, rfl, rfl, Nat.le_refl _, fun _ _ _ _ => rfl⟩
theorem Fr.of {s g : Nat} {a b : World} (h : Below a.heap.size a b) : Fr s g a b := ⟨h.os, h.tape, h.output, h.size, fun k hk _ _ => h.block k hk⟩
theorem Fr.grown {s g : Nat} {a b : World} (h : a.grownBy b (some g)) : Fr s g a b := ⟨h.os, h.tape, h.output, h.size, fun k hk _ h2 => h.block k hk (by simpa using h2)⟩
theorem Fr.grown1 {s g : Nat} {a b : World} (h : a.grownBy b (some s)) : Fr s g a b := ⟨h.os, h.tape, h.output, h.size, fun k hk h2 _ => h.block k hk (by simpa using h2)⟩
theorem Fr.trans {s g : Nat} {a b c : World} (h : Fr s g a b) (k : Fr s g b c) : Fr s g a c :=
  ⟨k.os.trans h.os, k.tape.trans h.tape, k.output.trans h.output, Nat.le_trans h.size k.size, fun i hi h1 h2 => (k.block i (Nat.lt_of_lt_of_le hi h.size) h1 h2).trans (h.block i hi h1 h2)⟩
theorem Fr.below {s g B : Nat} {a b : World} (h : Fr s g a b) (h1 : B ≤ s) (h2 : B ≤ g) (hB : B ≤ a.heap.size) : Below B a b := ⟨h.os, h.tape, h.output, h.size, fun k hk => h.block k (by omega) (by omega) (by omega)⟩
theorem Fr.tab {s g : Nat} {a b : World} (h : Fr s g a b) (ht : Tb.Tab a) (h1 : 1 < s) (h2 : 1 < g) : Tb.Tab b := by
  have hl := ht.lt
  obtain ⟨⟨t, fr, e⟩, t2, fr2, e2⟩ := ht
  exact ⟨⟨t, fr, (h.block 0 (by omega) (by omega) (by omega)).trans e⟩, t2, fr2, (h.block 1 hl (by omega) (by omega)).trans e2⟩
/-! ### A slab -/
structure Sb (w : World) (s q g : Nat) (bs : List (BitVec 8)) (b c h f : Nat) : Prop where
  blk : Blk w s [.pointer (some ⟨q, 0, none⟩), .int .i64 (b : Int), .int .i64 (c : Int), .int .i64 ((h : Int) - 1), .int .i64 (f : Int)] 102
  mem : Mem w q g bs
  hc : c < 12
  hb : b % 1024 = 0
  fit : b + 1024 ≤ bs.length
  hh : h ≤ nS c
  hf : f ≤ nS c
  pos : 1 < s ∧ 1 < q ∧ 1 < g
section
variable {w w' : World} {s q g b c h f : Nat} {bs : List (BitVec 8)}
theorem Sb.kinds (m : Sb w s q g bs b c h f) : kind w s = 102 ∧ kind w q = 98 ∧ kind w g = 5 := ⟨kind_blk m.blk, kind_of m.mem.1, kind_of m.mem.2.1⟩
theorem Sb.lt (m : Sb w s q g bs b c h f) : s < w.heap.size ∧ q < w.heap.size ∧ g < w.heap.size := ⟨m.blk.lt, m.mem.lt, m.mem.2.1.lt⟩
theorem Sb.of (m : Sb w s q g bs b c h f) (h1 : w'.heap[s]? = w.heap[s]?) (h2 : w'.heap[q]? = w.heap[q]?) (h3 : w'.heap[g]? = w.heap[g]?) : Sb w' s q g bs b c h f :=
  ⟨m.blk.of h1, m.mem.of_blocks h2 h3, m.hc, m.hb, m.fit, m.hh, m.hf, m.pos⟩
theorem Sb.below (m : Sb w s q g bs b c h f) (hb : Below w.heap.size w w') : Sb w' s q g bs b c h f := m.of (hb.block _ m.lt.1) (hb.block _ m.lt.2.1) (hb.block _ m.lt.2.2)
theorem Sb.drewN (m : Sb w s q g bs b c h f) (a : Nat) : Sb (w.drewN a) s q g bs b c h f := m.below (up_drew (Below.refl _ w) a)
/-- Blocks of other kinds have changed. -/
theorem Sb.far (m : Sb w s q g bs b c h f) {i j x y : Nat} (hf : Fr i j w w') (hi : kind w i = x) (hj : kind w j = y) (hx : x ≠ 102 ∧ x ≠ 98 ∧ x ≠ 5) (hy : y ≠ 102 ∧ y ≠ 98 ∧ y ≠ 5) : Sb w' s q g bs b c h f := by
  obtain ⟨k1, k2, k3⟩ := m.kinds
  obtain ⟨l1, l2, l3⟩ := m.lt
  exact m.of (hf.block _ l1 (kne k1 hi (Ne.symm hx.1)) (kne k1 hj (Ne.symm hy.1))) (hf.block _ l2 (kne k2 hi (Ne.symm hx.2.1)) (kne k2 hj (Ne.symm hy.2.1))) (hf.block _ l3 (kne k3 hi (Ne.symm hx.2.2)) (kne k3 hj (Ne.symm hy.2.2)))
theorem Sb.c0 (m : Sb w s q g bs b c h f) : w.cell? ⟨s, 0, none⟩ = some (.pointer (some ⟨q, 0, none⟩)) := m.blk.cell
theorem Sb.c1 (m : Sb w s q g bs b c h f) : w.cell? ⟨s, 1, none⟩ = some (.int .i64 (b : Int)) := m.blk.cell
theorem Sb.c2 (m : Sb w s q g bs b c h f) : w.cell? ⟨s, 2, none⟩ = some (.int .i64 (c : Int)) := m.blk.cell
theorem Sb.c3 (m : Sb w s q g bs b c h f) : w.cell? ⟨s, 3, none⟩ = some (.int .i64 ((h : Int) - 1)) := m.blk.cell
theorem Sb.c4 (m : Sb w s q g bs b c h f) : w.cell? ⟨s, 4, none⟩ = some (.int .i64 (f : Int)) := m.blk.cell
theorem Sb.bd (m : Sb w s q g bs b c h f) : b + 1024 ≤ bs.length ∧ bs.length ≤ 1048576 := ⟨m.fit, m.mem.2.2⟩
theorem tab_drewN (hT : Tb.Tab w) (a : Nat) : Tb.Tab (w.drewN a) := hT.below (up_drew (Below.refl _ w) a)

/-! ### What is asked -/
theorem base_any (m : Sb w s q g bs b c h f) : Calls Tryd.prog 38 #[.pointer (some ⟨s, 0, none⟩)] w fun e w' => e = .returned (.int .i64 (b : Int)) ∧ w = w' := by
  have c1 := m.c1
  clear m
  go_enter Tryd.func38, Tryd.ntmps38
  go_wp2
  go_ret
  exact ⟨rfl, rfl⟩
theorem class_any (m : Sb w s q g bs b c h f) : Calls Tryd.prog 39 #[.pointer (some ⟨s, 0, none⟩)] w fun e w' => e = .returned (.int .i64 (c : Int)) ∧ w = w' := by
  have c2 := m.c2
  clear m
  go_enter Tryd.func39, Tryd.ntmps39
  go_wp2
  go_ret
  exact ⟨rfl, rfl⟩
theorem head_any (m : Sb w s q g bs b c h f) : Calls Tryd.prog 41 #[.pointer (some ⟨s, 0, none⟩)] w fun e w' => e = .returned (.int .i64 ((h : Int) - 1)) ∧ w = w' := by
  have c3 := m.c3
  clear m
  go_enter Tryd.func41, Tryd.ntmps41
  go_wp2
  go_ret
  exact ⟨rfl, rfl⟩
theorem free_any (m : Sb w s q g bs b c h f) : Calls Tryd.prog 32 #[.pointer (some ⟨s, 0, none⟩)] w fun e w' => e = .returned (.int .i64 (f : Int)) ∧ w = w' := by
  have c4 := m.c4
  clear m
  go_enter Tryd.func32, Tryd.ntmps32
  go_wp2
  go_ret
  exact ⟨rfl, rfl⟩
theorem size_any (m : Sb w s q g bs b c h f) (hT : Tb.Tab w) : Calls Tryd.prog 29 #[.pointer (some ⟨s, 0, none⟩)] w fun e w' => e = .returned (.int .i64 (zN c : Int)) ∧ w = w' := by
  have c2 := m.c2
  have H := Lib.hid (Tb.size_any 1 (c : Int) w hT)
  rw [size_of m.hc] at H
  generalize zN c = z at *
  clear m hT
  go_enter Tryd.func29, Tryd.ntmps29
  go_wp2_with (go_at_call 77; refine H.out.mono ?_; rintro e w' ⟨rfl, rfl⟩)
  go_ret
  exact ⟨rfl, rfl⟩
theorem slots_any (m : Sb w s q g bs b c h f) (hT : Tb.Tab w) : Calls Tryd.prog 28 #[.pointer (some ⟨s, 0, none⟩)] w fun e w' => e = .returned (.int .i64 (nS c : Int)) ∧ w = w' := by
  have c2 := m.c2
  have H := Lib.hid (Tb.slots_any 1 (c : Int) w hT)
  rw [slots_of m.hc] at H
  generalize nS c = z at *
  clear m hT
  go_enter Tryd.func28, Tryd.ntmps28
  go_wp2_with (go_at_call 76; refine H.out.mono ?_; rintro e w' ⟨rfl, rfl⟩)
  go_ret
  exact ⟨rfl, rfl⟩
theorem has_any (k : Int) (m : Sb w s q g bs b c h f) (hT : Tb.Tab w) : Calls Tryd.prog 80 #[.pointer (some ⟨s, 0, none⟩), .int .i64 k] w fun e w' => e = .returned (.bool (hasB (nS c) k)) ∧ w = w' := by
  have H := Lib.hid (slots_any m hT)
  clear m hT
  generalize nS c = n at *
  by_cases h0 : 0 ≤ k
  · have d0 : decide (0 ≤ k) = true := by simpa using h0
    go_enter Tryd.func80, Tryd.ntmps80
    go_wp2_with (go_at_call 28; refine H.out.mono ?_; rintro e w' ⟨rfl, rfl⟩)
    go_ret
    exact ⟨ret_b (by unfold hasB; rw [decide_eq_decide]; omega), rfl⟩
  · have d0 : decide (0 ≤ k) = false := by simpa using h0
    go_enter Tryd.func80, Tryd.ntmps80
    go_wp2
    go_ret
    exact ⟨ret_b (by unfold hasB; symm; rw [decide_eq_false_iff_not]; omega), rfl⟩
theorem size_quiet (a : Nat) (m : Sb w s q g bs b c h f) (hT : Tb.Tab w) : Calls Tryd.prog 29 #[.pointer (some ⟨s, 0, none⟩)] (w.drewN a) fun e w' => e = .returned (.int .i64 (zN c : Int)) ∧ ∃ m, w' = w.drewN m :=
  (size_any (m.drewN a) (tab_drewN hT a)).mono fun _ _ ⟨he, hw⟩ => ⟨he, a, hw.symm⟩
/-! ### Address and Slot -/
theorem address_no (k : Int) (m : Sb w s q g bs b c h f) (hT : Tb.Tab w) (hk : hasB (nS c) k = false) : Calls Tryd.prog 33 #[.pointer (some ⟨s, 0, none⟩), .int .i64 k] w fun e w' => e = .returned (.tuple #[.int .i64 (-1), .bool false]) ∧ Drawn w w' := by
  have HH := Lib.hid (has_any k m hT)
  rw [hk] at HH
  clear m hT hk
  go_enter Tryd.func33, Tryd.ntmps33
  go_wp2_with (go_at_call 80; refine HH.out.mono ?_; rintro e w' ⟨rfl, rfl⟩)
  go_ret2
  exact ⟨rfl, ⟨0, rfl⟩⟩
theorem address_yes (k : Nat) (m : Sb w s q g bs b c h f) (hT : Tb.Tab w) (hk : k < nS c) : Calls Tryd.prog 33 #[.pointer (some ⟨s, 0, none⟩), .int .i64 (k : Int)] w fun e w' => e = .returned (.tuple #[.int .i64 ((b + k * zN c : Nat) : Int), .bool true]) ∧ Drawn w w' := by
  have c1 := m.c1
  have HS := Lib.hid (fun a => size_quiet a m hT)
  have HH := Lib.hid (has_any (k : Int) m hT)
  rw [hasB_iff.2 (by omega)] at HH
  have h1 := slot_in m.hc hk
  have h2 := m.bd
  have e1 : ((k : Int) * (zN c : Int)) = ((k * zN c : Nat) : Int) := by rw [Int.natCast_mul]
  obtain ⟨y, hy⟩ : ∃ y, k * zN c = y := ⟨_, rfl⟩
  rw [hy] at h1 e1 ⊢
  generalize zN c = z at *
  have w1 : IntKind.i64.wrap ((k : Int) * (z : Int)) = (y : Int) := by rw [e1, IntKind.wrap_i64]; omega
  have w2 : IntKind.i64.wrap ((b : Int) + (y : Int)) = ((b + y : Nat) : Int) := by rw [IntKind.wrap_i64]; omega
  clear m hT hk hy e1 h1 h2
  generalize b + y = t at *
  go_enter Tryd.func33, Tryd.ntmps33
  go_wp2_with (go_at_call 80; refine HH.out.mono ?_; rintro e w' ⟨rfl, rfl⟩)
  go_quiet ((go_at_call 29; exact HS.out _))
  go_wp2
  go_ret2
  exact ⟨rfl, _, rfl⟩
/-- The slot that begins at an address. -/
def slotO (b c : Nat) (a : Int) : Option Nat := if 0 ≤ a - b ∧ (a - b) % zN c = 0 ∧ (a - b) / zN c < nS c then some ((a - b) / zN c).toNat else none
theorem slotO_some {b c k : Nat} {a : Int} (h : slotO b c a = some k) : k < nS c ∧ a = ((b + k * zN c : Nat) : Int) := by
  unfold slotO at h
  split at h
  · rename_i h1
    obtain ⟨h1, h2, h3⟩ := h1
    have hk := Option.some.inj h
    have h0 : 0 ≤ (a - b) / zN c := Int.ediv_nonneg h1 (by omega)
    have e := Int.mul_ediv_add_emod (a - b) (zN c)
    have ek : ((a - b) / zN c) = (k : Int) := by omega
    rw [ek, h2] at e
    refine ⟨by omega, ?_⟩
    rw [Int.natCast_add, Int.natCast_mul, Int.mul_comm (k : Int)]
    omega
  · cases h
theorem slotO_at {b c k : Nat} (hc : c < 12) (hk : k < nS c) : slotO b c ((b + k * zN c : Nat) : Int) = some k := by
  have hz := (cls c hc).1
  have e : (((b + k * zN c : Nat) : Int) - b) = ((k * zN c : Nat) : Int) := by omega
  unfold slotO
  rw [e]
  have h1 : ((k * zN c : Nat) : Int) % (zN c : Int) = 0 := by rw [Int.natCast_mul]; exact Int.mul_emod_left _ _
  have h2 : ((k * zN c : Nat) : Int) / (zN c : Int) = (k : Int) := by rw [Int.natCast_mul]; exact Int.mul_ediv_cancel _ (by omega)
  rw [h1, h2, if_pos ⟨by omega, rfl, by omega⟩]; rfl
/-- What Slot answers. -/
def slotV (b c : Nat) (a : Int) : Value := match slotO b c a with
  | some k => .tuple #[.int .i64 (k : Int), .int .i64 0]
  | none => .tuple #[.int .i64 (-1), .int .i64 12]
end
end Go.Proofs.YtaelfgdiboekpaaDoor.Ns
