/-
  What the document's copy does: a contract that the claimed proof uses.
-/
import Derived.Test.YtiemgeflkmbfoaaDoorOsRefMore
namespace Go.Proofs.YtiemgeflkmbfoaaDoor.Os
set_option maxRecDepth 100000
open Go.RowKit
open Ta (sz szs classB classB_iff classB_not sizeOf' slotsOf)
open Bi (sets bt on first setL setB tst hasB u Blk Drawn grown_refl grown_trans grown_below up_alloc up_drew up_trans i64_in ret_i ret_b brow)

section
variable {w w' w2 : World} {R gl : Nat} {b c : Int} {l l' l2 : List Bool}
set_option maxHeartbeats 4000000 in
theorem dcopy_any (h : Rd w R gl b c l) : Calls Tryd.prog 46 #[.pointer (some ⟨R, 0, none⟩)] w fun e w' => ∃ t g, e = .returned (.pointer (some ⟨t, 0, none⟩)) ∧ Rd w' t g b c l ∧ w.heap.size ≤ t ∧ w.heap.size ≤ g ∧ Below w.heap.size w w' := by
  obtain ⟨cap, c3⟩ := h.c3
  have c0 := h.c0
  have c1 := h.c1
  have c2 := h.c2
  have HH := Lib.hid h
  have hR := h.lt.1
  have hl := h.len_le.2
  have hal : Below w.heap.size w (w.alloc (.cells #[] 4)).drew := (up_alloc (Below.refl _ _) _).drew
  have HAL := Lib.hid hal
  have OE : Hid ((w.alloc (.cells #[] 4)).drew.ownsRow w.heap.size 4 1 (.slice (some ⟨w.heap.size, 0, none⟩) 0 0) 0 (brow [])) := (bown_empty w).kept (grown_below (r := none) (Below.refl _ _).drew) (.inr (by simp [Value.ownBlock]))
  have HBt : Hid (∀ j, j < l.length → (w.alloc (.cells #[] 4)).drew.cell? ⟨gl, 0 + j, none⟩ = some (.bool (bt l j))) := fun j hj => by rw [Nat.zero_add]; exact (h.below hal).bit hj
  have hsz := hal.size
  have HC := Lib.hid (fun (V : World) (hV : Below w.heap.size w V) (i : Nat) (v : Value) (hv : w.cell? ⟨R, i, none⟩ = some v) => (hV.cell (p := ⟨R, i, none⟩) hR).trans hv)
  obtain ⟨n, hn⟩ : ∃ n, l.length = n := ⟨_, rfl⟩
  have HN := Lib.hid hn
  rw [hn] at c3 hl HBt
  have HS : Hid (w.cell? ⟨R, 0, none⟩ = some (.int .i64 b) ∧ w.cell? ⟨R, 1, none⟩ = some (.int .i64 0) ∧ w.cell? ⟨R, 2, none⟩ = some (.int .i64 c)) := ⟨c0, c1, c2⟩
  have HC3 := Lib.hid c3
  clear h hn hal
  go_enter Tryd.func46, Tryd.ntmps46
  go_wp2_with fail
  go_region_held3 (fun V => V.cell? ⟨R, 0, none⟩ = some (.int .i64 b) ∧ V.cell? ⟨R, 1, none⟩ = some (.int .i64 0) ∧ V.cell? ⟨R, 2, none⟩ = some (.int .i64 c) ∧ V.cell? ⟨R, 3, none⟩ = some (.slice (some ⟨gl, 0, none⟩) n cap))
    (first | exact ⟨HC.out _ (up_alloc (HAL.out.trans B5.out) _) 0 _ HS.out.1, HC.out _ (up_alloc (HAL.out.trans B5.out) _) 1 _ HS.out.2.1, HC.out _ (up_alloc (HAL.out.trans B5.out) _) 2 _ HS.out.2.2, HC.out _ (up_alloc (HAL.out.trans B5.out) _) 3 _ HC3.out⟩ | exact ⟨HC.out _ (HAL.out.trans B5.out) 0 _ HS.out.1, HC.out _ (HAL.out.trans B5.out) 1 _ HS.out.2.1, HC.out _ (HAL.out.trans B5.out) 2 _ HS.out.2.2, HC.out _ (HAL.out.trans B5.out) 3 _ HC3.out⟩ | exact ⟨HC.out _ HAL.out 0 _ HS.out.1, HC.out _ HAL.out 1 _ HS.out.2.1, HC.out _ HAL.out 2 _ HS.out.2.2, HC.out _ HAL.out 3 _ HC3.out⟩ | exact ⟨c0, c1, c2, c3⟩)
    ((refine bstep_app (by rfl) (.tmp 15) (.tmp 19) (by rfl) w.heap.size w.heap.size 0 n cap l gl 0 (by simp [Act.eval]) OE.out (by simp [Act.eval]) HN.out HBt.out (by omega) hsz ?_; intro g5 cap5 w5 O5 B5))
  go_wp2
  go_ret
  have hb : Below w.heap.size w w5 := HAL.out.trans B5.out
  obtain ⟨hlen, hrow⟩ := O5.out
  rcases hrow with ⟨e, _⟩ | ⟨g', cap', cur, e, hbase, hg, _, _, _, htk⟩
  · cases e
  · cases e
    have hz : w.heap.size ≤ w5.heap.size := hb.size
    have h6 : Below w5.heap.size w5 (w5.alloc (.cells #[.int .i64 b, .int .i64 0, .int .i64 c, .slice (some ⟨g5, 0, none⟩) n cap5] 51)) := up_alloc (Below.refl _ _) _
    have hgl : g5 < w5.heap.size := (Array.getElem?_eq_some_iff.1 hg).1
    refine ⟨w5.heap.size, g5, rfl, ⟨⟨cap5, by rw [HN.out]; exact heap_alloc_new w5 _⟩, ⟨cur.toList.drop n, ?_⟩, HH.out.hb, HH.out.hc, HH.out.len⟩, hz, hbase, up_trans hb h6⟩
    have e2 : brow l ++ cur.toList.drop n = cur.toList := by
      rw [Nat.mul_one] at htk
      rw [← htk]; exact List.take_append_drop n cur.toList
    rw [e2]
    exact (h6.block g5 hgl).trans hg
end
end Go.Proofs.YtiemgeflkmbfoaaDoor.Os
