/-
  What List does: a contract that the claimed proofs use.
-/
import Derived.Test.YtiemgeflkmbfoaaDoorBiList
namespace Go.Proofs.YtiemgeflkmbfoaaDoor.Bi
set_option maxRecDepth 100000
open Go.RowKit

theorem ofInt_u (y : BitVec 64) : BitVec.ofInt 64 (u y) = y := by
  unfold u; rw [BitVec.ofInt_natCast]; exact BitVec.ofNat_toNat ..
theorem Tab.drop {w w' : World} {B : Nat} (h : Tab w) (hb : Below B w w') (hB : 1 < B) : Tab w' := fun j hj => (hb.cell (p := ⟨1, j, none⟩) hB).trans (h j hj)
theorem made_own (w : World) (c : Nat) (hc : c ≤ 4096) : (w.alloc (.cells (madeCells #[.int .i64 0] c) 3)).ownsRow w.heap.size 3 1 (.slice (some ⟨w.heap.size, 0, none⟩) 0 c) 0 (irow []) :=
  World.ownsRow_made w _ c (Nat.le_refl _) (by simp only [maxLen]; omega) (by rw [size_madeCells]; simp)
set_option maxHeartbeats 2000000 in
theorem list_any (q g : Nat) (l : List Bool) (ws : List (BitVec 64)) (w : World) (hm : Bits w q g l ws) (hT : Tab w) :
    Calls Tryd.prog 52 #[.pointer (some ⟨q, 0, none⟩)] w (Gave (sets l) w) := by
  have hs := hm.words
  have hq := hm.1.lt
  have hg := hm.2.1.lt
  have HX : Hid (∀ i, i < ws.length → w.cell? ⟨g, i, none⟩ = some (.int .u64 (u (ws.getD i 0#64)))) := fun i hi => hm.word hi
  have hL := hm.many.2.1
  have HF := Lib.hid hm.2.2.1
  have HT := Lib.hid hT
  have hcnt := count_any q g l ws w hm
  have hcb := Nat.le_trans (sets_length_le l) hm.2.2.2.1
  obtain ⟨c, hc⟩ : ∃ c, (sets l).length = c := ⟨_, rfl⟩
  rw [hc] at hcnt hcb
  have HC := Lib.hid hc
  have HCnt := Lib.hid hcnt
  have hmk := make_ints c hcb
  have hs3 : (w.alloc (.cells (madeCells #[.int .i64 0] c) 3)).cell? ⟨q, 1, none⟩ = _ := (cell_alloc _ hq).trans hs
  have hst := made_own w c hcb
  have HS := Lib.hid hst
  clear hm hT hcnt hc hst
  obtain ⟨L, hl⟩ : ∃ L, ws.length = L := ⟨_, rfl⟩
  have HL := Lib.hid hl
  rw [hl] at hs hs3 HX hL
  clear hl
  have hpos := HT.out.lt
  go_enter Tryd.func52, Tryd.ntmps52
  go_wp2_with (go_at_call 50; refine HCnt.out.mono ?_; rintro e w' ⟨rfl, rfl⟩)
  go_loopw [3, 14] (fun o i wr => ∃ k m g' cap : Nat, k ≤ L ∧ m ≤ 64 * k ∧ i = .int .i64 k ∧ o = .slice (some ⟨g', 0, none⟩) m cap ∧ (on (bt l) (64 * k)).length = m ∧ wr.ownsRow w.heap.size 3 1 (.slice (some ⟨g', 0, none⟩) m cap) m (irow (on (bt l) (64 * k))) ∧ Below w.heap.size w wr) (fun _ i _ => L - (intOf i).toNat)
  case atStart => exact ⟨0, 0, w.heap.size, c, by omega, by omega, rfl, rfl, rfl, HS.out, up_alloc (Below.refl _ _) _⟩
  case round =>
    obtain ⟨k, m, g', cap, hk, hmk, rfl, rfl, hm, hown, hbel⟩ := hrel
    have HO := Lib.hid hown
    have HBe := Lib.hid hbel
    have HM := Lib.hid hm
    have hsz := hbel.size
    clear hown hbel HS hm hs3
    by_cases hlt : k < L
    · have q1 := (HBe.out.cell (p := ⟨g, k, none⟩) hg).trans (HX.out k hlt)
      have how := on_word HF.out k
      obtain ⟨x, hx⟩ : ∃ x, ws.getD k 0#64 = x := ⟨_, rfl⟩
      rw [hx] at q1 how
      have HOW := Lib.hid how
      clear hx how
      go_wp2
      go_loopw [3, 5] (fun o c wr2 => ∃ (m g' cap : Nat) (y : BitVec 64) (xs : List Nat), m ≤ 64 * (k + 1) ∧ o = .slice (some ⟨g', 0, none⟩) m cap ∧ c = .int .u64 (u y) ∧ xs.length = m ∧ wr2.ownsRow w.heap.size 3 1 (.slice (some ⟨g', 0, none⟩) m cap) m (irow xs) ∧ xs ++ (sw y).map (64 * k + ·) = on (bt l) (64 * (k + 1)) ∧ Below w.heap.size w wr2) (fun _ c _ => (sw (BitVec.ofInt 64 (intOf c))).length)
      case atStart => exact ⟨m, g', cap, x, _, by omega, rfl, rfl, HM.out, HO.out, HOW.out.symm, HBe.out⟩
      case round =>
        obtain ⟨m2, g2, cap2, y, xs, hm2, rfl, rfl, hxs, hown2, hxy, hbel2⟩ := hrel
        have HO2 := Lib.hid hown2
        have HB2 := Lib.hid hbel2
        have HXs := Lib.hid hxs
        have HXY := Lib.hid hxy
        have hsz2 := hbel2.size
        have HT2 := Lib.hid (HT.out.drop hbel2 hpos)
        clear hown2 hbel2 hxs hxy
        by_cases hy : y = 0#64
        · have hne : (u y != 0) = false := by rw [hy]; rfl
          have HY := Lib.hid hy
          clear hy
          go_wp2
          go_roundw
          case rel =>
            have e : xs = on (bt l) (64 * (k + 1)) := by rw [← HXY.out, HY.out, sw_zero]; simp
            exact ⟨k + 1, m2, g2, cap2, by omega, by omega, by go_num, rfl, by rw [← e]; exact HXs.out, by rw [← e]; exact HO2.out, HB2.out⟩
          case measure => simp [intOf]; omega
        · have hne : (u y != 0) = true := by rw [show (0 : Int) = u 0#64 from rfl, u_bne]; simpa using hy
          have htz := tz_any y wr hy HT2.out
          have hcons := sw_cons y hy
          obtain ⟨mm, _, hcc⟩ := low_bit y hy
          obtain ⟨t, ht⟩ : ∃ t, Lib.ctz 64 y.toNat = t := ⟨_, rfl⟩
          rw [ht] at htz hcons hcc
          have HTZ := Lib.hid htz
          have HCo := Lib.hid hcons
          have hlen : m2 + 1 ≤ 64 * (k + 1) := by
            have e := congrArg List.length HXY.out
            rw [List.length_append, List.length_map, HXs.out, HCo.out, List.length_cons] at e
            have := on_length_le (bt l) (64 * (k + 1))
            omega
          have ecast : (((k * 64 + t : Nat)) : Int) = (k : Int) * 64 + (t : Int) := by omega
          have HEc := Lib.hid ecast
          clear hy htz hcons ht ecast
          go_wp2_with (first | (go_at_call 62; refine HTZ.out.mono ?_; rintro e w' ⟨rfl, rfl⟩) | (at_builtin; refine append_int (by rfl) _ _ (by rfl) w.heap.size g2 cap2 wr.heap.size m2 xs (k * 64 + t) (by rfl) (HO2.out.alloc _) (by rfl) (by rw [HEc.out]; exact new_at (by simp)) (by omega) (by simp; omega) ?_; intro g3 cap3 w3 HO3 HB3))
          go_roundw
          case rel =>
            refine ⟨m2 + 1, g3, cap3, y &&& (y - 1#64), xs ++ [k * 64 + t], hlen, rfl, by rw [and_raw], by rw [List.length_append, HXs.out]; rfl, HO3.out, ?_, (up_alloc HB2.out _).trans HB3.out⟩
            rw [← HXY.out, HCo.out, List.map_cons, List.append_assoc, Nat.mul_comm k 64]; rfl
          case measure =>
            show (sw (BitVec.ofInt 64 (bits .and .u64 (u y) (IntKind.u64.wrap (u y - 1))))).length < (sw (BitVec.ofInt 64 (u y))).length
            rw [and_raw, ofInt_u, ofInt_u, HCo.out]
            simp
    · obtain rfl : k = L := by omega
      have hgb : w.heap.size ≤ g' := own_base HO.out g' rfl
      go_wp2
      go_ret
      have e : on (bt l) (64 * k) = sets l := by rw [← HL.out]; exact on_all HF.out
      rw [e] at HO HM
      exact ⟨g', cap, by rw [HM.out]; rfl, hgb, own_ints HO.out HM.out, HBe.out⟩
end Go.Proofs.YtiemgeflkmbfoaaDoor.Bi
