/-
  How a book is made, and copied: contracts that the claimed proofs use.
-/
import Derived.Test.YtjnknnakllbaaaaGreatLeOps
import Derived.Laws.Externs
namespace Go.Proofs.YtjnknnakllbaaaaGreat.Le
set_option maxRecDepth 100000
open Go.RowKit Go.Maps

section
variable {w : World} {q b : Nat} {C p : Int} {f : Row} {S : List Row}
theorem new_no (C : Int) (w : World) (h : ¬ (0 ≤ C ∧ C ≤ 1099511627776)) : Calls Tryz.prog 43 #[.int .i64 C] w fun e w' => e = .returned (.tuple #[.pointer none, .int .i64 11]) ∧ w = w' := by
  by_cases h0 : C < 0
  · have d0 : decide (C < 0) = true := by simpa using h0
    go_enter Tryz.func43, Tryz.ntmps43
    go_wp2
    go_ret2
    exact ⟨rfl, rfl⟩
  · have d0 : decide (C < 0) = false := by simpa using h0
    have d1 : decide (1099511627776 < C) = true := by simp; omega
    clear h
    go_enter Tryz.func43, Tryz.ntmps43
    go_wp2
    go_ret2
    exact ⟨rfl, rfl⟩
theorem new_yes (C : Int) (w : World) (h0 : 0 ≤ C) (h1 : C ≤ 1099511627776) :
    Calls Tryz.prog 43 #[.int .i64 C] w fun e w' => ∃ q b, e = .returned (.tuple #[.pointer (some ⟨q, 0, none⟩), .int .i64 0]) ∧ Led w' q b C [z8] ∧ w.heap.size ≤ q ∧ w.heap.size ≤ b ∧ Below w.heap.size w w' := by
  have d0 : decide (C < 0) = false := by simpa using h0
  have d1 : decide (1099511627776 < C) = false := by simpa using h1
  have hmm := @run_makeMap Tryz.prog
  have hB := up_alloc (up_alloc (Below.refl _ w) (.map #[] 0)) (.cells #[.int .i64 C, .int .i64 0, .int .i64 0, .int .i64 0, .int .i64 0, .int .i64 0, .int .i64 0, .int .i64 0, .int .i64 0, .int .i64 0, .map (some w.heap.size)] 132)
  have hK : Blk ((w.alloc (.map #[] 0)).alloc (.cells #[.int .i64 C, .int .i64 0, .int .i64 0, .int .i64 0, .int .i64 0, .int .i64 0, .int .i64 0, .int .i64 0, .int .i64 0, .int .i64 0, .map (some w.heap.size)] 132)) (w.heap.size + 1) (lc C z8 0 w.heap.size) 132 := by
    have := heap_alloc_last (w.alloc (.map #[] 0)) (.cells #[.int .i64 C, .int .i64 0, .int .i64 0, .int .i64 0, .int .i64 0, .int .i64 0, .int .i64 0, .int .i64 0, .int .i64 0, .int .i64 0, .map (some w.heap.size)] 132)
    have e : (w.alloc (.map #[] 0)).heap.size = w.heap.size + 1 := by simp
    rw [e] at this
    exact this
  have hM : Mp ((w.alloc (.map #[] 0)).alloc (.cells #[.int .i64 C, .int .i64 0, .int .i64 0, .int .i64 0, .int .i64 0, .int .i64 0, .int .i64 0, .int .i64 0, .int .i64 0, .int .i64 0, .map (some w.heap.size)] 132)) w.heap.size [] :=
    (Mp.made w).of (Below.heap_alloc _ _ _ (by simp))
  have HB := Lib.hid hB
  have HK := Lib.hid hK
  have HM := Lib.hid hM
  clear hB hK hM
  go_enter Tryz.func43, Tryz.ntmps43
  go_wp2_with fail
  generalize (w.alloc (.map #[] 0)).alloc (.cells #[.int .i64 C, .int .i64 0, .int .i64 0, .int .i64 0, .int .i64 0, .int .i64 0, .int .i64 0, .int .i64 0, .int .i64 0, .int .i64 0, .map (some w.heap.size)] 132) = W at HB HK HM ⊢
  go_wp2_with (go_at_call 77; refine (note_led (S := []) HK.out HM.out (z8_gd h0) h1 (by simp)).mono ?_; rintro e w4 ⟨rfl, l4, f4⟩)
  go_ret2
  exact ⟨_, _, rfl, l4, by omega, Nat.le_refl _, HB.out.trans (f4.below (by omega) (Nat.le_refl _) HB.out.size)⟩
theorem equal_map (d : Nat) (w : World) (b : Nat) : (Op.equalIn (d + 1) 130 (.map (some b)) (.map none)).run Tryz.prog w = .ok false w := by
  simp [Op.equalIn, run_underlying Tryz.underlying130]
theorem eql_map (w : World) (b : Nat) : (binOp .eql 130 (.map (some b)) (.map none)).run Tryz.prog w = .ok (.bool false) w := by
  simp only [binOp]
  simp [show Op.equal 130 (.map (some b)) (.map none) = Op.equalIn (9999 + 1) 130 (.map (some b)) (.map none) from rfl, equal_map 9999 w b]
theorem clone_run (w : World) {b clock : Nat} {es : Array MapEntry} (hb : w.heap[b]? = some (.map es clock)) :
    (Extern.MapsClone.clone #[.iface 130 (.map (some b))]).run Tryz.prog w = .ok (.iface 130 (.map (some w.heap.size))) (w.alloc (.map es clock)) := by
  have e1 : ∀ (t : TypeId) (r : Nat), ∃ k : Obj → Sem Value, Extern.MapsClone.clone #[.iface t (.map (some r))] = (getObj r >>= k) ∧ ∀ es c, k (.map es c) = (newObj (.map es c) >>= fun n => pure (.iface t (.map (some n)))) := fun t r => ⟨_, rfl, fun _ _ => rfl⟩
  obtain ⟨k, e, hk⟩ := e1 130 b
  rw [e]
  simp [MapKept.run_getObj_map hb, hk, Result.andThen, go_sem]
theorem assert_map (w : World) (v : Value) : (Instr.typeAssert (.iface 130 v) 20 130 false).run Tryz.prog w = .ok v w := by
  simp [Instr.typeAssert, run_underlying Tryz.underlying130, go_sem, Result.andThen]
theorem mclone_any (b : Nat) (w : World) (h : Mp w b S) :
    Calls Tryz.prog 95 #[.map (some b)] w fun e w' => ∃ b', e = .returned (.map (some b')) ∧ Mp w' b' S ∧ w.heap.size ≤ b' ∧ Below w.heap.size w w' := by
  have hq := fun w => eql_map w b
  obtain ⟨n, D, ⟨es, clock, hb, r⟩, r2⟩ := h
  have HR := Lib.hid r
  have HR2 := Lib.hid r2
  have HB := Lib.hid hb
  clear r r2
  go_enter Tryz.func95, Tryz.ntmps95
  go_wp2
  rw [run_callFunc_extern Tryz.func118 (by kernel_rfl) (by kernel_rfl) (by kernel_rfl) (e := Extern.MapsClone.clone) (by kernel_rfl), clone_run w HB.out]
  simp only [Result.andThen]
  rw [Oper.upon_value]
  go_wp2
  rw [assert_map]
  simp only [Result.andThen]
  rw [Oper.upon_value]
  go_wp2
  go_ret
  exact ⟨_, rfl, ⟨n, D, ⟨es, clock, heap_alloc_last w _, HR.out⟩, HR2.out⟩, Nat.le_refl _, up_alloc (Below.refl _ _) _⟩
theorem clone_any (h : Led w q b C S) :
    Calls Tryz.prog 65 #[.pointer (some ⟨q, 0, none⟩)] w fun e w' => ∃ q' b', e = .returned (.pointer (some ⟨q', 0, none⟩)) ∧ Led w' q' b' C S ∧ w.heap.size ≤ q' ∧ w.heap.size ≤ b' ∧ Below w.heap.size w w' := by
  have HH := Lib.hid h
  have hlt := h.blk.lt
  have c0 := blk_0 h.blk
  obtain ⟨c1, c2, c3, c4, c5, c6, c7, c8⟩ := blk_8 h.blk
  have c9 := blk_9 h.blk
  have c10 := blk_10 h.blk
  clear h
  have hB := up_alloc (Below.refl _ w) (.cells #[.int .i64 C, .int .i64 (hd S 0), .int .i64 (hd S 1), .int .i64 (hd S 2), .int .i64 (hd S 3), .int .i64 (hd S 4), .int .i64 (hd S 5), .int .i64 (hd S 6), .int .i64 (hd S 7), .int .i64 (pk S), .map (some b)] 132)
  have hK : Blk (w.alloc (.cells #[.int .i64 C, .int .i64 (hd S 0), .int .i64 (hd S 1), .int .i64 (hd S 2), .int .i64 (hd S 3), .int .i64 (hd S 4), .int .i64 (hd S 5), .int .i64 (hd S 6), .int .i64 (hd S 7), .int .i64 (pk S), .map (some b)] 132)) w.heap.size (lc C (hd S) (pk S) b) 132 := heap_alloc_last w _
  have HB := Lib.hid hB
  have HK := Lib.hid hK
  clear hB hK
  go_enter Tryz.func65, Tryz.ntmps65
  go_wp2_with fail
  generalize w.alloc (.cells #[.int .i64 C, .int .i64 (hd S 0), .int .i64 (hd S 1), .int .i64 (hd S 2), .int .i64 (hd S 3), .int .i64 (hd S 4), .int .i64 (hd S 5), .int .i64 (hd S 6), .int .i64 (hd S 7), .int .i64 (pk S), .map (some b)] 132) = W at HB HK ⊢
  refine (mclone_any b W (HH.out.below HB.out).mp).mono ?_
  rintro e w2 ⟨b', rfl, hm, hb', hbl⟩
  have HM := Lib.hid hm
  have K2 := Lib.hid (HK.out.of (hbl.block _ HK.out.lt))
  have HB2 := Lib.hid (up_trans HB.out hbl)
  have fz := K2.out.frozen 10
  have c10' := blk_10 K2.out
  have hsz := HB.out.size
  have hlt2 := HK.out.lt
  have hlt3 := K2.out.lt
  clear hm hbl HK c0 c1 c2 c3 c4 c5 c6 c7 c8 c9 c10 HB
  go_wp2
  go_ret
  have hg := grown_set w2 w.heap.size 10 (.map (some b'))
  refine ⟨_, b', rfl, ⟨K2.out.set (i := 10) (.map (some b')), HM.out.of (hg.block b' HM.out.lt (fun e => ?_))⟩, Nat.le_refl _, by omega, HB2.out.setCell (Nat.le_refl _) _⟩
  have : b' = w.heap.size := by simpa using e
  omega
end
end Go.Proofs.YtjnknnakllbaaaaGreat.Le
