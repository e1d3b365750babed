/-
  Somebody writes into the memory, by the document: contracts that the claimed proof uses.
-/
import Derived.Test.YtaelfgdiboekpaaDoorNsRD
import Derived.BigRegion
namespace Go.Proofs.YtaelfgdiboekpaaDoor.Ns
set_option maxRecDepth 100000
open Go.RowKit
open Ce (u y ldW Mem row)
open Bi (Blk Drawn hasB hasB_iff hasB_not up_alloc up_drew up_trans i64_in ret_i ret_b grown_refl grown_trans grown_below)

def w4E (n : Nat) (a : Int) (m : Nat) : Int := if Ce.hasB n a m = true then 0 else 11
def w4S (S : SS) (a : Int) (m : Nat) (ys : List (BitVec 8)) : SS := if Ce.hasB S.bs.length a m = true then ⟨splice S.bs a.toNat ys, S.h, S.f⟩ else S
section
variable {w w' : World} {r m gm cap b c B s q g h f : Nat} {S S' : SS} {L : List Nat} {bs : List (BitVec 8)}
theorem splice_take (bs ys : List (BitVec 8)) (t k : Nat) (hk : k < ys.length) (ht : t + ys.length ≤ bs.length) : (row (splice bs t (ys.take k))).set (t + k) (.int .u8 (y (ys.getD k 0#8))) = row (splice bs t (ys.take (k + 1))) := by
  have e : ys.getD k 0#8 = ys[k] := by rw [List.getD_eq_getElem?_getD, List.getElem?_eq_getElem hk]; rfl
  have hl : (ys.take k).length = k := by rw [List.length_take]; omega
  have := Ce.splice_set bs (ys.take k) t ys[k] (by rw [hl]; omega)
  rw [hl] at this
  rw [List.take_succ_eq_append_getElem hk, ← this, e]
  unfold Ce.row
  rw [List.map_set]
theorem Rf.wrote (x : Rf w r m gm cap bs b c h f) (j : Nat) (v : BitVec 8) (bs' : List (BitVec 8)) (hb : (row bs).set j (.int .u8 (y v)) = row bs') (hl : bs'.length = bs.length) :
    Rf (w.setCell ⟨gm, j, none⟩ (.int .u8 (y v))) r m gm cap bs' b c h f ∧ Fr gm gm w (w.setCell ⟨gm, j, none⟩ (.int .u8 (y v))) := by
  obtain ⟨k1, k2, k3⟩ := x.kinds
  obtain ⟨o1, o2⟩ := x.own.stored j (.int .u8 (y v))
  have e : ∀ i, i ≠ gm → (w.setCell ⟨gm, j, none⟩ (.int .u8 (y v))).heap[i]? = w.heap[i]? := fun i hi => Below.heap_setCell _ _ _ _ hi
  refine ⟨⟨x.blk.of (e r (kne k1 k3 (by decide))), ?_, ?_, by rw [hl]; exact x.len, x.hc, by rw [hl]; exact x.fit, x.hh, x.hf⟩, Fr.grown1 o2⟩
  · rw [hl]; exact x.mblk.of (e m (kne k2 k3 (by decide)))
  · rw [hl, ← hb]; exact o1
set_option maxHeartbeats 4000000 in
theorem does_4 (X : Cl) (x : Rf w r m gm cap S.bs b c S.h S.f) (hY : Ce.BA B w X.B X.ys) (hB : B ≤ gm ∧ B ≤ w.heap.size) (hm : X.ys.length = X.m) (hm2 : X.m ≤ 1048576) (ha : I64 X.a) (h4 : X.x = 4) :
    Calls Tryd.prog 22 #[.pointer (some ⟨r, 0, none⟩), X.val] w fun e w' => RAns (w4E S.bs.length X.a X.m) [] e w' ∧ RLeft r m gm b c (w4S S X.a X.m X.ys) w w' := by
  obtain ⟨x', a, A, n, cp, xs, B', mm, mcap, ys⟩ := X
  dsimp only at hY hm hm2 ha h4
  subst h4
  unfold w4E w4S Cl.val
  dsimp only
  have hb0 : Below w.heap.size w (w.alloc (.cells #[.int .i64 4, .int .i64 a, .slice A n cp, .slice B' mm mcap] 55)) := up_alloc (Below.refl _ w) _
  have K0 : Blk (w.alloc (.cells #[.int .i64 4, .int .i64 a, .slice A n cp, .slice B' mm mcap] 55)) w.heap.size [.int .i64 4, .int .i64 a, .slice A n cp, .slice B' mm mcap] 55 := heap_alloc_new w _
  have x0 := x.below hb0
  have HB0 := Lib.hid hb0
  have HX := Lib.hid x
  have y0 := hY.below (Below.down hb0 hB.2)
  have hgm := x.gm_lt
  obtain ⟨bx, hbx⟩ : ∃ bx, w.heap.size = bx := ⟨_, rfl⟩
  rw [hbx] at K0
  obtain ⟨w1, hw1⟩ : ∃ w1, w.alloc (.cells #[.int .i64 4, .int .i64 a, .slice A n cp, .slice B' mm mcap] 55) = w1 := ⟨_, rfl⟩
  have HW := Lib.hid hw1
  have HBx := Lib.hid hbx
  rw [hw1] at K0 x0 HB0 y0
  have k1 : w1.cell? ⟨bx, 1, none⟩ = some (.int .i64 a) := K0.cell
  have k3 : w1.cell? ⟨bx, 3, none⟩ = some (.slice B' mm mcap) := K0.cell
  have k0 : w1.cell? ⟨bx, 0, none⟩ = some (.int .i64 4) := K0.cell
  have r0 := x0.r0
  have m0 := x0.m0
  obtain ⟨N, hN⟩ : ∃ N, S.bs.length = N := ⟨_, rfl⟩
  have hl := x.len
  rw [hN] at hl m0 ⊢
  obtain ⟨NA, hNA⟩ : ∃ NA, (N : Int) - a = NA := ⟨_, rfl⟩
  have X0 := Lib.hid x0
  have KB := Lib.hid K0
  have HY := Lib.hid y0
  have HBd := Lib.hid hB
  have HM := Lib.hid hm
  have HLen := Lib.hid hN
  clear x x0 K0 hY y0 hb0 hw1 hbx hm hN hB
  by_cases h0 : a < 0
  · have d0 : decide (a < 0) = true := decide_eq_true h0
    have e : Ce.hasB N a mm = false := Ce.hasB_not.2 (by omega)
    rw [if_neg (by rw [e]; decide), if_neg (by rw [e]; decide)]
    clear h0 e hNA ha
    go_enter Tryd.func22, Tryd.ntmps22
    go_wp2_with fail
    rw [HBx.out, HW.out]
    go_quiet (fail)
    go_wp2_with fail
    go_ret2
    exact ⟨⟨_, _, _, rfl, li_nil _, rfl⟩, .same HX.out (up_drew HB0.out _)⟩
  · have d0 : decide (a < 0) = false := decide_eq_false h0
    obtain ⟨t, rfl⟩ := Int.eq_ofNat_of_zero_le (by omega : 0 ≤ a)
    have w0 : IntKind.i64.wrap ((N : Int) - (t : Int)) = NA := by rw [IntKind.wrap_i64]; obtain ⟨a1, a2⟩ := ha; omega
    by_cases h1 : N < t
    · have d1 : decide (N < t) = true := decide_eq_true h1
      have d1' : decide ((N : Int) < (t : Int)) = true := decide_eq_true (by omega)
      have e : Ce.hasB N (t : Int) mm = false := Ce.hasB_not.2 (by omega)
      rw [if_neg (by rw [e]; decide), if_neg (by rw [e]; decide)]
      clear h0 h1 e hNA ha
      go_enter Tryd.func22, Tryd.ntmps22
      go_wp2_with fail
      rw [HBx.out, HW.out]
      go_quiet (fail)
      go_wp2_with fail
      go_ret2
      exact ⟨⟨_, _, _, rfl, li_nil _, rfl⟩, .same HX.out (up_drew HB0.out _)⟩
    · have d1 : decide (N < t) = false := decide_eq_false h1
      have d1' : decide ((N : Int) < (t : Int)) = false := decide_eq_false (by omega)
      by_cases h2 : NA < (mm : Int)
      · have d2 : decide (NA < (mm : Int)) = true := decide_eq_true h2
        have e : Ce.hasB N (t : Int) mm = false := Ce.hasB_not.2 (by omega)
        rw [if_neg (by rw [e]; decide), if_neg (by rw [e]; decide)]
        clear h0 h1 h2 e hNA ha
        go_enter Tryd.func22, Tryd.ntmps22
        go_wp2_with fail
        rw [HBx.out, HW.out]
        go_quiet (fail)
        go_wp2_with fail
        go_ret2
        exact ⟨⟨_, _, _, rfl, li_nil _, rfl⟩, .same HX.out (up_drew HB0.out _)⟩
      · have d2 : decide (NA < (mm : Int)) = false := decide_eq_false h2
        have e : Ce.hasB N (t : Int) mm = true := Ce.hasB_iff.2 (by omega)
        rw [if_pos e, if_pos e]
        have hfit : t + mm ≤ N := by omega
        clear h0 h1 h2 e hNA ha
        go_enter Tryd.func22, Tryd.ntmps22
        go_wp2_with fail
        rw [HBx.out, HW.out]
        go_quiet (fail)
        generalize hw2 : w1.drewN _ = w2
        have B2 : Hid (Below w1.heap.size w1 w2) := by rw [← hw2]; exact up_drew (Below.refl _ _) _
        clear hw2 d0 d1 d1' d2 w0 k0 k1 k3 r0 m0
        have KB2 := Lib.hid (KB.out.of (B2.out.block _ KB.out.lt))
        have X2 := Lib.hid (X0.out.below B2.out)
        have HY2 : Hid (Ce.BA B w2 B' ys) := HY.out.below (Below.down B2.out (by have := HB0.out.size; have := HBd.out.2; omega))
        have F2 : Hid (Fr gm gm w w2) := Fr.of (up_trans HB0.out B2.out)
        go_wp2_with fail
        go_loopw [8] (fun i wr => ∃ k : Nat, k ≤ mm ∧ i = .int .i64 (k : Int) ∧ Rf wr r m gm cap (splice S.bs t (ys.take k)) b c S.h S.f ∧ Fr gm gm w wr ∧ Fr gm gm w1 wr) (fun i _ => mm - (intOf i).toNat)
        case atStart => exact ⟨0, by omega, rfl, by rw [List.take_zero, Ce.splice_nil]; exact X2.out, F2.out, Fr.of B2.out⟩
        case round =>
          obtain ⟨k, hk, rfl, hx, hf, hf1⟩ := hrel
          have HXr := Lib.hid hx
          have HF := Lib.hid hf
          have HF1 := Lib.hid hf1
          have kb := KB.out.of (hf1.block bx KB.out.lt (by have := HBx.out; omega) (by have := HBx.out; omega))
          have k1 : wr.cell? ⟨bx, 1, none⟩ = some (.int .i64 (t : Int)) := kb.cell
          have k3 : wr.cell? ⟨bx, 3, none⟩ = some (.slice B' mm mcap) := kb.cell
          have hy := HY.out.below (hf1.below HBd.out.1 HBd.out.1 (by have := HB0.out.size; have := HBd.out.2; omega))
          have hyl : ys.length = mm := HM.out
          have hsl : (splice S.bs t (ys.take k)).length = N := by rw [Ce.splice_length (by rw [List.length_take, HLen.out]; omega), HLen.out]
          by_cases hlt : k < mm
          · have dlt : decide ((k : Int) < (mm : Int)) = true := decide_eq_true (by omega)
            obtain ⟨b', o', rfl, _, hc⟩ := hy (by omega)
            have q0 := hc k (by omega)
            have r0 := hx.r0
            have m0 := hx.m0
            rw [hsl] at m0
            have qb := hx.byte (t + k) (by rw [hsl]; omega)
            have fb := hx.own.frozenAt (t + k)
            have hw := hx.wrote (t + k) (ys.getD k 0#8) (splice S.bs t (ys.take (k + 1))) (splice_take S.bs ys t k (by omega) (by rw [HLen.out]; omega)) (by rw [hsl, Ce.splice_length (by rw [List.length_take, HLen.out]; omega), HLen.out])
            obtain ⟨tk, htk⟩ : ∃ tk, t + k = tk := ⟨_, rfl⟩
            rw [htk] at qb fb hw
            have w5 : IntKind.i64.wrap ((t : Int) + (k : Int)) = (tk : Int) := by rw [IntKind.wrap_i64]; omega
            have j1 : (0 : Int) ≤ (tk : Int) := by omega
            have j2 : (tk : Int) < (N : Int) := by omega
            have j3 : (0 : Int) ≤ (k : Int) := by omega
            have j4 : (k : Int) < (mm : Int) := by omega
            have HWr := Lib.hid hw
            generalize ys.getD k 0#8 = vb at *
            generalize (splice S.bs t (ys.take k)).getD tk 0#8 = vo at *
            clear hx hf hf1 kb hy hyl hsl hc hw htk
            go_wp2_with fail
            go_region
            go_wp2_with fail
            go_roundw
            case rel =>
              obtain ⟨v1, v2⟩ := HWr.out
              have db : Below (wr.setCell ⟨gm, tk, none⟩ (.int .u8 (y vb))).heap.size (wr.setCell ⟨gm, tk, none⟩ (.int .u8 (y vb))) (wr.setCell ⟨gm, tk, none⟩ (.int .u8 (y vb))).drew := (Below.refl _ _).drew
              exact ⟨k + 1, by omega, by go_num, v1.below db, (HF.out.trans v2).trans (Fr.of db), (HF1.out.trans v2).trans (Fr.of db)⟩
            case measure => simp [intOf]; omega
          · obtain rfl : k = mm := by omega
            have dlt : decide ((k : Int) < (k : Int)) = false := decide_eq_false (by omega)
            clear hx hf hf1 kb hy
            go_wp2_with fail
            go_ret2
            refine ⟨⟨_, _, _, rfl, li_nil _, rfl⟩, gm, cap, gm, gm, ?_, HF.out, .inr rfl, .inr rfl, .inl rfl⟩
            have e : ys.take k = ys := List.take_of_length_le (by rw [HM.out]; exact Nat.le_refl _)
            have := HXr.out
            rw [e] at this
            exact this
end
end Go.Proofs.YtaelfgdiboekpaaDoor.Ns
