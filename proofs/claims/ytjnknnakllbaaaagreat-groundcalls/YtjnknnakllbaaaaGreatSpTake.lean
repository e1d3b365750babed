/-
  How pages are taken: contracts that the claimed proofs use.
-/
import Derived.Test.YtjnknnakllbaaaaGreatSpRepl
import Derived.Test.YtjnknnakllbaaaaGreatSpHold
import Derived.Deep.DeepCutAuto
namespace Go.Proofs.YtjnknnakllbaaaaGreat.Sp
set_option maxRecDepth 100000
open Go.RowKit

/-- Can. -/
theorem can_any {w : World} {q g : Nat} {N : Int} {L : List Rn} (n a : Int) (h : Sp w q g L) (hw : WF N L) (hN : N ≤ 4096) :
    Calls Tryz.prog 58 #[.pointer (some ⟨q, 0, none⟩), .int .i64 n, .int .i64 a] w fun e w' => e = .returned (.bool (askB n a && bst n a L L.length != -1)) ∧ Below w.heap.size w w' := by
  have HA := Lib.hid (fun W => ask_any n a W)
  cases hb : askB n a with
  | false =>
    rw [hb] at HA
    rw [Bool.false_and]
    clear h hw hb
    go_enter Tryz.func58, Tryz.ntmps58
    go_wp2_with (go_at_call 90; refine (HA.out _).mono ?_; rintro e w' ⟨rfl, rfl⟩)
    go_ret
    exact ⟨rfl, Below.refl _ _⟩
  | true =>
    rw [hb] at HA
    rw [Bool.true_and]
    obtain ⟨ha1, ha2⟩ : a ≤ 4096 ∧ powB a = true := by
      unfold askB at hb
      simp only [Bool.and_eq_true, decide_eq_true_eq] at hb
      exact hb.2
    have hB := up_alloc (up_alloc (Below.refl _ w) (.cells #[.int .i64 n] 3)) (.cells #[.int .i64 a] 3)
    have b1 : Blk (w.alloc (.cells #[.int .i64 n] 3)) w.heap.size [.int .i64 n] 3 := heap_alloc_new w _
    have b2 : Blk ((w.alloc (.cells #[.int .i64 n] 3)).alloc (.cells #[.int .i64 a] 3)) w.heap.size [.int .i64 n] 3 := b1.of (heap_alloc_old _ _ b1.lt)
    have b3 : Blk ((w.alloc (.cells #[.int .i64 n] 3)).alloc (.cells #[.int .i64 a] 3)) (w.heap.size + 1) [.int .i64 a] 3 := by
      have := heap_alloc_new (w.alloc (.cells #[.int .i64 n] 3)) (.cells #[.int .i64 a] 3)
      rwa [World.size_alloc] at this
    have HS := Lib.hid (shortest_any (h.below hB) hw hN b2.cell b3.cell ha2 ha1)
    have HB := Lib.hid hB
    generalize bst n a L L.length = R at HS ⊢
    clear h hw hb hB b1 b2 b3 ha2
    go_enter Tryz.func58, Tryz.ntmps58
    go_wp2_with (first | (go_at_call 90; refine (HA.out _).mono ?_; rintro e w' ⟨rfl, rfl⟩) | (go_at_call 92; refine (holds_any n a _).mono ?_; rintro e w1 ⟨rfl, rfl⟩) | (go_at_call 91; refine HS.out.mono ?_; rintro e w2 ⟨rfl, d2⟩))
    go_ret
    exact ⟨rfl, up_trans HB.out d2⟩
/-- Three runs in the place of one. -/
def three (p m u n : Int) : List Rn := [⟨p, u - p, false⟩, ⟨u, n, true⟩, ⟨u + n, p + m - (u + n), false⟩]
theorem four (w : World) (a b c d : List Value) :
    Blk ((((w.alloc (.cells a.toArray 107)).alloc (.cells b.toArray 107)).alloc (.cells c.toArray 107)).alloc (.cells d.toArray 107)) (w.heap.size + 1) b 107 ∧
    Blk ((((w.alloc (.cells a.toArray 107)).alloc (.cells b.toArray 107)).alloc (.cells c.toArray 107)).alloc (.cells d.toArray 107)) (w.heap.size + 1 + 1) c 107 ∧
    Blk ((((w.alloc (.cells a.toArray 107)).alloc (.cells b.toArray 107)).alloc (.cells c.toArray 107)).alloc (.cells d.toArray 107)) (w.heap.size + 1 + 1 + 1) d 107 ∧
    Below w.heap.size w ((((w.alloc (.cells a.toArray 107)).alloc (.cells b.toArray 107)).alloc (.cells c.toArray 107)).alloc (.cells d.toArray 107)) := by
  have h1 : Blk ((w.alloc (.cells a.toArray 107)).alloc (.cells b.toArray 107)) (w.heap.size + 1) b 107 := by
    have := heap_alloc_new (w.alloc (.cells a.toArray 107)) (.cells b.toArray 107)
    rwa [World.size_alloc] at this
  have h2 : Blk (((w.alloc (.cells a.toArray 107)).alloc (.cells b.toArray 107)).alloc (.cells c.toArray 107)) (w.heap.size + 1 + 1) c 107 := by
    have := heap_alloc_new ((w.alloc (.cells a.toArray 107)).alloc (.cells b.toArray 107)) (.cells c.toArray 107)
    rwa [World.size_alloc, World.size_alloc] at this
  have h3 : Blk ((((w.alloc (.cells a.toArray 107)).alloc (.cells b.toArray 107)).alloc (.cells c.toArray 107)).alloc (.cells d.toArray 107)) (w.heap.size + 1 + 1 + 1) d 107 := by
    have := heap_alloc_new (((w.alloc (.cells a.toArray 107)).alloc (.cells b.toArray 107)).alloc (.cells c.toArray 107)) (.cells d.toArray 107)
    rwa [World.size_alloc, World.size_alloc, World.size_alloc] at this
  have h1' := h1.of (heap_alloc_old _ (.cells c.toArray 107) h1.lt)
  exact ⟨h1'.of (heap_alloc_old _ _ h1'.lt), h2.of (heap_alloc_old _ _ h2.lt), h3, up_alloc (up_alloc (up_alloc (up_alloc (Below.refl _ w) _) _) _) _⟩
set_option maxHeartbeats 2000000 in
theorem split_any {w : World} {q g k : Nat} {N u n p m : Int} {t : Bool} {L : List Rn} (h : Sp w q g L) (hw : WF N L) (hN : N ≤ 4096) (hk : k < L.length) (hr : el L k = ⟨p, m, t⟩) (h1 : p ≤ u) (hn : 1 ≤ n) (h2 : u + n ≤ p + m) :
    Calls Tryz.prog 102 #[.pointer (some ⟨q, 0, none⟩), .int .i64 (k : Int), .int .i64 u, .int .i64 n] w fun e w' => e = .returned (.tuple #[]) ∧ Became q g (takeL L k u n) w w' := by
  have hbd := hw.bds hN hk
  rw [hr] at hbd
  dsimp only at hbd
  have hlen : L.length ≤ 4096 := by have := hw.len; omega
  have HW := Lib.hid hw
  have HS := Lib.hid h
  obtain ⟨cap, hq, hrw, hne⟩ := h
  have hql := hq.lt
  have c0 : w.cell? ⟨q, 0, none⟩ = some (.slice (some ⟨g, 0, none⟩) L.length cap) := hq.cell
  obtain ⟨r0, r1, r2⟩ := hrw.cells hk
  rw [hr] at r0 r1 r2
  dsimp only at r0 r1 r2
  obtain ⟨M, hM⟩ : ∃ M, L.length = M := ⟨_, rfl⟩
  have HM := Lib.hid hM
  have HQ := Lib.hid hq
  have HRW := Lib.hid hrw
  have HNE := Lib.hid hne
  have HR := Lib.hid hr
  rw [hM] at hk hlen c0 HQ
  have b0 : (0 : Int) ≤ (k : Int) := by omega
  have b1 : (k : Int) < (M : Int) := by omega
  clear hw hq hrw hne hM hr
  go_enter Tryz.func102, Tryz.ntmps102
  go_wp2_with fail
  obtain ⟨x1, x2, x3, hb⟩ := four w [.int .i64 p, .int .i64 m, .bool t] [.int .i64 p, .int .i64 (u - p), .bool false] [.int .i64 u, .int .i64 n, .bool true] [.int .i64 (u + n), .int .i64 (p + m - (u + n)), .bool false]
  have S2 := HS.out.below hb
  generalize (((w.alloc (.cells [.int .i64 p, .int .i64 m, .bool t].toArray 107)).alloc (.cells [.int .i64 p, .int .i64 (u - p), .bool false].toArray 107)).alloc (.cells [.int .i64 u, .int .i64 n, .bool true].toArray 107)).alloc (.cells [.int .i64 (u + n), .int .i64 (p + m - (u + n)), .bool false].toArray 107) = W at x1 x2 x3 hb S2 ⊢
  have Q2 := HQ.out.of (hb.block _ HQ.out.lt)
  have R2 := HRW.out.below hb
  have d0 : W.cell? ⟨q, 0, none⟩ = some (.slice (some ⟨g, 0, none⟩) M cap) := Q2.cell
  have y0 : W.cell? ⟨w.heap.size + 1, 0, none⟩ = some (.int .i64 p) := x1.cell
  have y1 : W.cell? ⟨w.heap.size + 1, 1, none⟩ = some (.int .i64 (u - p)) := x1.cell
  have y2 : W.cell? ⟨w.heap.size + 1, 2, none⟩ = some (.bool false) := x1.cell
  have y3 : W.cell? ⟨w.heap.size + 1 + 1, 0, none⟩ = some (.int .i64 u) := x2.cell
  have y4 : W.cell? ⟨w.heap.size + 1 + 1, 1, none⟩ = some (.int .i64 n) := x2.cell
  have y5 : W.cell? ⟨w.heap.size + 1 + 1, 2, none⟩ = some (.bool true) := x2.cell
  have y6 : W.cell? ⟨w.heap.size + 1 + 1 + 1, 0, none⟩ = some (.int .i64 (u + n)) := x3.cell
  have y7 : W.cell? ⟨w.heap.size + 1 + 1 + 1, 1, none⟩ = some (.int .i64 (p + m - (u + n))) := x3.cell
  have y8 : W.cell? ⟨w.heap.size + 1 + 1 + 1, 2, none⟩ = some (.bool false) := x3.cell
  have HB := Lib.hid hb
  have HS2 := Lib.hid S2
  have HR2 := Lib.hid R2
  have HQ2 := Lib.hid Q2
  have hsz := hb.size
  clear c0 r0 r1 r2 x1 x2 x3 hb S2 Q2 R2
  have hbd2 : Below W.heap.size W (W.alloc (.cells (rcs (three p m u n)).toArray 107)).drew := (up_alloc (Below.refl _ W) _).drew
  have hV : Blk (W.alloc (.cells (rcs (three p m u n)).toArray 107)).drew W.heap.size (rcs (three p m u n)) 107 := heap_alloc_new W _
  have HREP := Lib.hid (rep_any (i := k) (V := three p m u n) (HR2.out.below hbd2) HM.out hk hlen hV rfl (by have := HR2.out.lt; omega))
  have HQ3 := Lib.hid (HQ2.out.of (hbd2.block _ HQ2.out.lt))
  have HB3 := Lib.hid (up_trans HB.out hbd2)
  have hql3 : q < (W.alloc (.cells (rcs (three p m u n)).toArray 107)).drew.heap.size := HQ3.out.lt
  have hqW := HQ2.out.lt
  have hrc : rcs (three p m u n) = [.int .i64 p, .int .i64 (u - p), .bool false, .int .i64 u, .int .i64 n, .bool true, .int .i64 (u + n), .int .i64 (p + m - (u + n)), .bool false] := rfl
  rw [hrc] at HREP HQ3 HB3 hql3
  clear hbd2 hV hrc
  have hn1 : q ≠ W.heap.size := by omega
  have hn2 : w.heap.size + 1 ≠ W.heap.size := by have := World.block_lt_of_cell? W _ y0; dsimp only at this; omega
  have hn3 : w.heap.size + 1 + 1 ≠ W.heap.size := by have := World.block_lt_of_cell? W _ y3; dsimp only at this; omega
  have hn4 : w.heap.size + 1 + 1 + 1 ≠ W.heap.size := by have := World.block_lt_of_cell? W _ y6; dsimp only at this; omega
  have hwk := i64_in ((k : Int) + 1) (by omega) (by omega)
  have hspl : splL L k u n = L.take k ++ (three p m u n ++ L.drop (k + 1)) := by unfold splL three; rw [HR.out]
  have hll : (L.take k ++ (three p m u n ++ L.drop (k + 1))).length = M + 2 := by simp [HM.out, three]; omega
  have HLL := Lib.hid hll
  have HSPL := Lib.hid hspl
  clear hspl hll
  go_cut [54] (fun _ wx => ∃ g', Sp wx q g' (splL L k u n) ∧ Fr q g w wx ∧ (g' = g ∨ w.heap.size ≤ g'))
  case first =>
    go_region_law (go_simp; go_at_call 121; refine HREP.out.mono ?_; rintro e w5 ⟨g', cap', rfl, r5, g5, o5⟩; have q5 := HQ3.out.of (g5.block q HQ3.out.lt (by simpa using HNE.out)); have c5 : w5.cell? ⟨q, 0, none⟩ = some (.slice (some ⟨g, 0, none⟩) M cap) := q5.cell; have f5 := q5.frozen 0; have HG5 := Lib.hid g5; have HR5 := Lib.hid r5; have HO5 := Lib.hid o5; have HQ5 := Lib.hid q5; clear g5 r5 o5 q5)
    all_goals (go_wp2_with fail; go_meet)
    all_goals
      have hgl := HR2.out.lt
      have hg' : g' = g ∨ W.heap.size < g' := by
        rcases HO5.out with h | h
        · exact .inl h
        · right; have : W.heap.size + 1 ≤ g' := by simpa [World.drew] using h
          omega
      have hqg : q ≠ g' := by
        rcases hg' with h | h
        · rw [h]; exact HNE.out
        · omega
      refine ⟨g', ⟨cap', ?_, ?_, hqg⟩, ?_, ?_⟩
      · rw [HSPL.out, HLL.out]; exact HQ5.out.set _
      · rw [HSPL.out]; exact HR5.out.of (Below.heap_setCell _ _ _ _ (fun e => hqg e.symm))
      · exact ((Fr.of HB3.out : Fr q g _ _).trans (Fr.ofg HG5.out) (.inl rfl)).trans (Fr.ofq (grown_set _ _ _ _)) (.inl rfl)
      · rcases hg' with h | h
        · exact .inl h
        · right; omega
  case rest =>
  obtain ⟨g', s6, f6, o6⟩ := hcut
  have hl6 : (splL L k u n).length ≤ 8192 := by rw [HSPL.out, HLL.out]; omega
  have HLV := Lib.hid (leave_any s6 hl6)
  have F6 := Lib.hid f6
  have O6 := Lib.hid o6
  clear s6 f6 o6 hl6
  go_wp2_with fail
  refine HLV.out.mono ?_
  rintro e w7 ⟨rfl, s7, f7⟩
  have S7 := Lib.hid s7
  have F7 := Lib.hid (F6.out.trans f7 O6.out)
  clear s7 f7 HLV
  go_wp2
  go_end0
  exact ⟨rfl, g', S7.out, F7.out, O6.out⟩
end Go.Proofs.YtjnknnakllbaaaaGreat.Sp
