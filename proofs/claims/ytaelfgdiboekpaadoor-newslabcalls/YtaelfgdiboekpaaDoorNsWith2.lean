/-
  How a slab is begun, second part: contracts that the claimed proofs use.
-/
import Derived.Test.YtaelfgdiboekpaaDoorNsWith
namespace Go.Proofs.YtaelfgdiboekpaaDoor.Ns
set_option maxRecDepth 100000
open Go.RowKit
open Ce (u ldW Mem)
open Bi (Blk Drawn hasB hasB_iff hasB_not up_alloc up_drew up_trans i64_in ret_i ret_b grown_refl grown_trans grown_below)

section
variable {w w' W : World} {s q g b c h f : Nat} {bs : List (BitVec 8)} {L : List Nat}
/-- A memory stays where blocks of other kinds, or none that there were, have changed. -/
theorem RowAt.far {N : Nat} {q2 g2 i j x y : Nat} (h : RowAt N L w q2 g2) (hf : Fr i j w w') (hi : kind w i = x) (hj : kind w j = y) (hx : x ≠ 126 ∧ x ≠ 22) (hy : y ≠ 126 ∧ y ≠ 22) : RowAt N L w' q2 g2 := by
  obtain ⟨ws, hm⟩ := h
  have k1 := kind_blk hm.1
  have k2 := kind_blk hm.2.1
  exact ⟨ws, hm.1.of (hf.block _ hm.1.lt (kne k1 hi (Ne.symm hx.1)) (kne k1 hj (Ne.symm hy.1))), hm.2.1.of (hf.block _ hm.2.1.lt (kne k2 hi (Ne.symm hx.2)) (kne k2 hj (Ne.symm hy.2))), hm.2.2⟩
/-- What stays of a memory, and what is answered where a slab is begun. -/
def Begun (q g b c : Nat) (S : SS) (w : World) (e : Ending) (w' : World) : Prop := ∃ s, e = .returned (.tuple #[.pointer (some ⟨s, 0, none⟩), .int .i64 0]) ∧ Sb w' s q g S.bs b c S.h S.f ∧ w.heap.size ≤ s ∧ Tb.Tab w' ∧ Fr g g w w'
theorem Fr.new {a b' c' : World} (h : Fr g g a b') (k : Fr s g b' c') (hs : a.heap.size ≤ s) : Fr g g a c' :=
  ⟨k.os.trans h.os, k.tape.trans h.tape, k.output.trans h.output, Nat.le_trans h.size k.size, fun i hi h1 _ => (k.block i (Nat.lt_of_lt_of_le hi h.size) (by omega) h1).trans (h.block i hi h1 h1)⟩
set_option maxHeartbeats 2000000 in
theorem with_head {A : Option Addr} {T : List Int} {cap n : Nat} (hm : Mem w q g bs) (hT : Tb.Tab w) (hc : c < 12) (hb : isB bs.length (b : Int) = true) (hp : 1 < q ∧ 1 < g)
    (hA : At w.heap.size w A (ints T)) (hn : T.length = n) (hn2 : n ≤ 1048576) :
    Calls Tryd.prog 15 #[.pointer (some ⟨q, 0, none⟩), .int .i64 (b : Int), .int .i64 (c : Int), .slice A n cap] w fun e w' =>
      (tkOk (nS c) [] T = none ∧ e = .returned (.tuple #[.pointer none, .int .i64 10]) ∧ Below w.heap.size w w') ∨ ∃ xs, tkOk (nS c) [] T = some xs ∧ Begun q g b c (bl b c xs (nS c) ⟨bs, 0, 0⟩) w e w' := by
  obtain ⟨b0, b1, b2⟩ := isB_iff.1 hb
  have HB := Lib.hid (isBase_any (b : Int) hm)
  have HC := Lib.hid (isClass_any (c : Int) w hT)
  rw [hb] at HB
  rw [clsB_iff.2 (by omega)] at HC
  have h128 := (cls c hc).2.2.2.1
  have h2N := (cls c hc).2.2.1
  -- the slab, before its row is made
  obtain ⟨s, hs⟩ : ∃ s, w.heap.size = s := ⟨_, rfl⟩
  obtain ⟨w1, hw1⟩ : ∃ w1, w.alloc (.cells #[.pointer (some ⟨q, 0, none⟩), .int .i64 (b : Int), .int .i64 (c : Int), .int .i64 (-1), .int .i64 0] 102) = w1 := ⟨_, rfl⟩
  have B1 : Below w.heap.size w w1 := by rw [← hw1]; exact up_alloc (Below.refl _ _) _
  have M1 : Sb w1 s q g bs b c 0 0 := ⟨by rw [← hw1, ← hs]; exact heap_alloc_new w _, hm.below B1, hc, by omega, by omega, by omega, by omega, ⟨by have := hT.lt; omega, hp⟩⟩
  have HN := Lib.hid (noSlots_any M1 (hT.below B1))
  have HBw := Lib.hid B1
  have HM1 := Lib.hid M1
  have HT1 := Lib.hid (hT.below B1)
  have HA := Lib.hid hA
  have HT := Lib.hid hT
  have HC0 := Lib.hid hc
  have HFit : Hid (b + 1024 ≤ bs.length) := by show _ ≤ _; omega
  have HLn := Lib.hid hn
  have HG : Hid (g < w.heap.size) := hm.2.1.lt
  have HW := Lib.hid hw1
  have HS0 := Lib.hid hs
  clear hm hT hc hb hp hA hn b0 b1 b2 B1 M1 hw1 hs
  obtain ⟨N, hN⟩ : ∃ N, nS c = N := ⟨_, rfl⟩
  have HNc := Lib.hid hN
  rw [hN] at HN h128 h2N ⊢
  clear hN
  go_enter Tryd.func15, Tryd.ntmps15
  go_wp2_with (first | (go_at_call 52; refine HB.out.mono ?_; rintro e w' ⟨rfl, rfl⟩) | (go_at_call 53; refine HC.out.mono ?_; rintro e w' ⟨rfl, rfl⟩))
  rw [HS0.out, HW.out]
  refine HN.out.mono ?_
  rintro e w2 ⟨rfl, r2, b2⟩
  obtain ⟨q2, hq2⟩ : ∃ q2, w1.heap.size + 1 = q2 := ⟨_, rfl⟩
  obtain ⟨g2, hg2⟩ : ∃ g2, w1.heap.size = g2 := ⟨_, rfl⟩
  have HQ : Hid (w.heap.size ≤ g2) := by have := HBw.out.size; show _ ≤ _; omega
  rw [hq2, hg2] at r2
  rw [hq2]
  have R2 := Lib.hid r2
  have B2 := Lib.hid (up_trans HBw.out b2)
  have M2 := Lib.hid (HM1.out.below b2)
  have T2 := Lib.hid (HT1.out.below b2)
  clear r2 b2 HN HB HC hq2 hg2 HM1 HT1 HBw HW
  go_wp2_with fail
  go_loopw [33] (fun i wr => ∃ (j : Nat) (xs : List Nat), j ≤ n ∧ i = .int .i64 (j : Int) ∧ tkOk N xs (T.drop j) = tkOk N [] T ∧ RowAt N xs wr q2 g2 ∧ Below w.heap.size w wr ∧ Sb wr s q g bs b c 0 0) (fun i _ => n - (intOf i).toNat)
  case atStart => exact ⟨0, [], by omega, rfl, rfl, R2.out, B2.out, M2.out⟩
  case round =>
    obtain ⟨j, xs, hj, rfl, hx, hr, hb, hm⟩ := hrel
    have HX := Lib.hid hx
    have HR := Lib.hid hr
    have HBr := Lib.hid hb
    have HM := Lib.hid hm
    clear hx hr hb hm
    by_cases hlt : j < n
    · have hjl : j < T.length := by rw [HLn.out]; exact hlt
      obtain ⟨b', o', rfl, _, q0⟩ := (HA.out.below HBr.out).int hjl
      have hdr := List.drop_eq_getElem_cons hjl
      obtain ⟨x, hx⟩ : ∃ x, T[j] = x := ⟨_, rfl⟩
      rw [hx] at q0 hdr
      rw [hdr] at HX
      have HX2 : Hid ((if hasB N x = true ∧ x.toNat ∉ xs then tkOk N (xs ++ [x.toNat]) (T.drop (j + 1)) else none) = tkOk N [] T) := HX.out
      have HSet : Hid (Calls Tryd.prog 55 #[.pointer (some ⟨q2, 0, none⟩), .int .i64 x] wr fun e w' => e = .returned (.bool (decide (hasB N x = true ∧ x.toNat ∉ xs))) ∧ (∃ ws, Bi.Bits w' q2 g2 (Bi.setL (setTo N xs) x true) ws) ∧ wr.grownBy w' (some g2)) := by
        obtain ⟨ws, hm⟩ := HR.out
        have := Bi.set_any q2 g2 _ ws x wr hm
        unfold Bi.Turned at this
        rw [set_is] at this
        exact this
      have j1 : (0 : Int) ≤ (j : Int) := by omega
      have j2 : (j : Int) < (n : Int) := by omega
      clear hx hdr hjl HX
      by_cases hok : hasB N x = true ∧ x.toNat ∉ xs
      · rw [if_pos hok] at HX2
        rw [show decide (hasB N x = true ∧ x.toNat ∉ xs) = true by simpa using hok] at HSet
        have HSL := Lib.hid (set_to (xs := xs) hok.1)
        generalize x.toNat = k at *
        clear hok
        go_wp2_with fail
        refine HSet.out.mono ?_
        rintro e w3 ⟨rfl, m3, g3⟩
        rw [HSL.out] at m3
        have R3 : Hid (RowAt N (xs ++ [k]) w3 q2 g2) := m3
        have G3 := Lib.hid g3
        clear m3 g3 HSet
        go_wp2_with fail
        go_roundw
        case rel =>
          have hk := HR.out
          obtain ⟨ws, hk⟩ := hk
          have kg := kind_blk hk.2.1
          have hg2 : w.heap.size ≤ g2 := HQ.out
          refine ⟨j + 1, xs ++ [k], by omega, by go_num, HX2.out, R3.out, HBr.out.grown G3.out HBr.out.size (fun _ e => by cases e; exact hg2), ?_⟩
          exact HM.out.far (Fr.grown (s := g2) G3.out) kg kg (by decide) (by decide)
        case measure => simp [intOf]; omega
      · rw [if_neg hok] at HX2
        rw [show decide (hasB N x = true ∧ x.toNat ∉ xs) = false by simpa using hok] at HSet
        clear hok
        go_wp2_with fail
        refine HSet.out.mono ?_
        rintro e w3 ⟨rfl, m3, g3⟩
        have G3 := Lib.hid g3
        clear m3 g3 HSet
        go_wp2_with fail
        go_ret2
        have hg2 : w.heap.size ≤ g2 := HQ.out
        exact .inl ⟨HX2.out.symm, rfl, HBr.out.grown G3.out HBr.out.size (fun _ e => by cases e; exact hg2)⟩
    · obtain rfl : j = n := by omega
      have HXF : Hid (tkOk N [] T = some xs) := by
        have := HX.out
        rw [List.drop_of_length_le (by rw [HLn.out]; exact Nat.le_refl _)] at this
        exact this.symm
      have HS28 : Hid (∀ V : World, Sb V s q g bs b c 0 0 → Tb.Tab V → Calls Tryd.prog 28 #[.pointer (some ⟨s, 0, none⟩)] V fun e w' => e = .returned (.int .i64 (N : Int)) ∧ V = w') := fun V m1 m2 => by have := slots_any m1 m2; rw [HNc.out] at this; exact this
      have TR := Lib.hid (HT.out.below HBr.out)
      have HSl := Lib.hid (HS28.out _ HM.out TR.out)
      have w1 : IntKind.i64.wrap ((N : Int) - 1) = (N : Int) - 1 := by rw [IntKind.wrap_i64]; omega
      clear HX HLn HA HS28
      go_wp2_with fail
      refine HSl.out.mono ?_
      rintro e w' ⟨rfl, rfl⟩
      clear HSl
      go_wp2_with fail
      clear w1
      go_loopw [14] (fun i wq => ∃ (k : Nat) (S : SS) (L : List Nat), k ≤ N ∧ i = .int .i64 ((k : Int) - 1) ∧ Sb wq s q g S.bs b c S.h S.f ∧ bl b c xs k S = bl b c xs N ⟨bs, 0, 0⟩ ∧ Ok b c bs.length S L ∧ (∀ x ∈ L, k ≤ x) ∧ RowAt N xs wq q2 g2 ∧ Fr g g w wq ∧ Tb.Tab wq) (fun i _ => (intOf i + 1).toNat)
      case atStart => exact ⟨N, ⟨bs, 0, 0⟩, [], by omega, rfl, HM.out, rfl, ok_zero rfl, fun x hx => (by cases hx), HR.out, Fr.of HBr.out, TR.out⟩
      case round =>
        obtain ⟨k, S, L, hk, rfl, hm, hbl, hok, hL, hr, hfr, ht⟩ := hrel
        have HM2 := Lib.hid hm
        have HBl := Lib.hid hbl
        have HOk := Lib.hid hok
        have HL := Lib.hid hL
        have HR2 := Lib.hid hr
        have HF2 := Lib.hid hfr
        have HT2 := Lib.hid ht
        clear hm hbl hok hL hr hfr ht
        by_cases hz : k = 0
        · subst hz
          have ez : ((0 : Nat) : Int) - 1 = -1 := rfl
          rw [ez]
          go_wp2_with fail
          go_ret2
          refine .inr ⟨xs, HXF.out, s, rfl, ?_, by rw [HS0.out]; exact Nat.le_refl _, HT2.out, HF2.out⟩
          have e := HBl.out
          rw [show bl b c xs 0 S = S from rfl] at e
          rw [← e]; exact HM2.out
        · obtain ⟨y, rfl⟩ : ∃ y, k = y + 1 := ⟨k - 1, by omega⟩
          have ek : ((y + 1 : Nat) : Int) - 1 = (y : Int) := by omega
          rw [ek]
          have hyN : y < N := by omega
          have HTs : Hid (Calls Tryd.prog 56 #[.pointer (some ⟨q2, 0, none⟩), .int .i64 (y : Int)] wr fun e w' => e = .returned (.bool (decide (y ∈ xs))) ∧ Drawn wr w') := by
            obtain ⟨ws, hm⟩ := HR2.out
            have := Bi.test_any q2 g2 _ ws (y : Int) wr hm
            rw [setTo_tst hyN] at this
            exact this
          have w1 : IntKind.i64.wrap ((y : Int) - 1) = (y : Int) - 1 := by rw [IntKind.wrap_i64]; omega
          clear hz ek
          by_cases hin : y ∈ xs
          · have HI := Lib.hid hin
            rw [show decide (y ∈ xs) = true by simpa using hin] at HTs
            clear hin
            go_wp2_with fail
            refine HTs.out.mono ?_
            rintro e w2 ⟨rfl, d2⟩
            have D2 := Lib.hid d2.below
            clear d2 HTs
            go_wp2_with fail
            go_roundw
            case rel =>
              refine ⟨y, S, L, by omega, by go_num, HM2.out.below D2.out, ?_, HOk.out, fun x hx => by have := HL.out x hx; omega, HR2.out.below D2.out, HF2.out.trans (Fr.of D2.out), HT2.out.below D2.out⟩
              have := HBl.out
              rw [show bl b c xs (y + 1) S = bl b c xs y (if y ∈ xs then S else S.push b c y) from rfl, if_pos HI.out] at this
              exact this
            case measure => simp [intOf]
          · have HI := Lib.hid hin
            rw [show decide (y ∈ xs) = false by simpa using hin] at HTs
            clear hin
            go_wp2_with fail
            refine HTs.out.mono ?_
            rintro e w2 ⟨rfl, d2⟩
            have D2 := Lib.hid d2.below
            have hyL : y ∉ L := fun hh => by have := HL.out y hh; omega
            have HyL := Lib.hid hyL
            have HP := Lib.hid (push_yes y (HM2.out.below d2.below) (HT2.out.below d2.below) (by rw [HNc.out]; exact hyN) (HOk.out.lt (by rw [HNc.out]; exact hyN) hyL))
            clear d2 HTs hyL
            go_wp2_with fail
            refine HP.out.mono ?_
            rintro e w3 ⟨rfl, m3, f3⟩
            have M3 := Lib.hid m3
            have F3 := Lib.hid f3
            clear m3 f3 HP
            go_wp2_with fail
            go_roundw
            case rel =>
              have K2 := (HM2.out.below D2.out).kinds
              have P2 := HM2.out.pos
              refine ⟨y, S.push b c y, y :: L, by omega, by go_num, M3.out, ?_, HOk.out.push HC0.out HFit.out (by rw [HNc.out]; exact hyN) HyL.out, fun x hx => ?_, (HR2.out.below D2.out).far F3.out K2.1 K2.2.2 (by decide) (by decide), (HF2.out.trans (Fr.of D2.out)).new F3.out (by rw [HS0.out]; exact Nat.le_refl _), F3.out.tab (HT2.out.below D2.out) P2.1 P2.2.2⟩
              · have := HBl.out
                rw [show bl b c xs (y + 1) S = bl b c xs y (if y ∈ xs then S else S.push b c y) from rfl, if_neg HI.out] at this
                exact this
              · rcases List.mem_cons.1 hx with e | hx
                · omega
                · have := HL.out x hx; omega
            case measure => simp [intOf]
end
end Go.Proofs.YtaelfgdiboekpaaDoor.Ns
