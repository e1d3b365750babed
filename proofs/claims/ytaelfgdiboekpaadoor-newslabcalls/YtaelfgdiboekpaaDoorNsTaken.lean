/-
  What Taken tells: contracts that the claimed proofs use.
-/
import Derived.Test.YtaelfgdiboekpaaDoorNsTell
namespace Go.Proofs.YtaelfgdiboekpaaDoor.Ns
set_option maxRecDepth 100000
open Go.RowKit
open Ce (u ldW Mem)
open Bi (Blk Drawn hasB hasB_iff hasB_not up_alloc up_drew up_trans i64_in ret_i ret_b grown_refl grown_trans grown_below)

/-- The first slots but those of a list. -/
def tkn (L : List Nat) (n : Nat) : List Nat := (List.range n).filter fun k => !decide (k ∈ L)
theorem tkn_in (L : List Nat) (k : Nat) (h : k ∈ L) : tkn L (k + 1) = tkn L k := by
  unfold tkn; rw [List.range_succ, List.filter_append]; simp [h]
theorem tkn_out (L : List Nat) (k : Nat) (h : k ∉ L) : tkn L (k + 1) = tkn L k ++ [k] := by
  unfold tkn; rw [List.range_succ, List.filter_append]; simp [h]
theorem tkn_le (L : List Nat) (n : Nat) : (tkn L n).length ≤ n := by
  unfold tkn; exact Nat.le_trans (List.length_filter_le _ _) (by simp)
theorem mem_tkn {L : List Nat} {n k : Nat} : k ∈ tkn L n ↔ k < n ∧ k ∉ L := by unfold tkn; simp
section
variable {w w' W : World} {s q g b c h f : Nat} {bs : List (BitVec 8)} {L : List Nat}
theorem grown_keep {B n : Nat} {v : Value} {xs : List Value} (hg : W.grownBy w' v.ownBlock) (ho : W.ownsRow B 3 1 v n xs) {j : Nat} (hj : j < W.heap.size) (hk : kind W j ≠ 3) : w'.heap[j]? = W.heap[j]? :=
  hg.block j hj fun e => by
    obtain ⟨cur, hc⟩ := own_cells ho e.symm
    exact hk (kind_of hc)
theorem RowAt.keep {B n N : Nat} {q2 g2 : Nat} {v : Value} {xs : List Value} (h : RowAt N L W q2 g2) (hg : W.grownBy w' v.ownBlock) (ho : W.ownsRow B 3 1 v n xs) : RowAt N L w' q2 g2 := by
  obtain ⟨ws, hm⟩ := h
  exact ⟨ws, hm.1.of (grown_keep hg ho hm.1.lt (by rw [kind_blk hm.1]; decide)), hm.2.1.of (grown_keep hg ho hm.2.1.lt (by rw [kind_blk hm.2.1]; decide)), hm.2.2⟩
theorem taken_no (m : Sb w s q g bs b c h f) (hT : Tb.Tab w) (hr : ¬ ∃ L, Rt (nx bs b c) h f L) : Calls Tryd.prog 26 #[.pointer (some ⟨s, 0, none⟩)] w fun e w' =>
    e = .returned (.tuple #[.slice none 0 0, .int .i64 10]) ∧ Below w.heap.size w w' := by
  have HC := Lib.hid ((row_any m hT).mono (fun e w' h => show ∃ q2 : Nat, e = .returned (.tuple #[.pointer (some ⟨q2, 0, none⟩), .int .i64 10]) ∧ Below w.heap.size w w' from by
    obtain ⟨E, xs, q2, g2, he, hg, _, _, _, hb⟩ := h
    rw [hg.no hr] at he
    exact ⟨q2, he, hb⟩))
  clear m hT hr
  go_enter Tryd.func26, Tryd.ntmps26
  go_wp2_with fail
  refine HC.out.mono ?_
  rintro e w1 ⟨q2, rfl, hb⟩
  have HB := Lib.hid hb
  clear hb HC
  go_wp2_with fail
  go_ret2
  exact ⟨rfl, HB.out⟩
set_option maxHeartbeats 2000000 in
theorem taken_yes (m : Sb w s q g bs b c h f) (hT : Tb.Tab w) (hr : Rt (nx bs b c) h f L) : Calls Tryd.prog 26 #[.pointer (some ⟨s, 0, none⟩)] w fun e w' =>
    (∃ A cap, e = .returned (.tuple #[.slice A (tkn L (nS c)).length cap, .int .i64 0]) ∧ Li w' A (nats (tkn L (nS c)))) ∧ Below w.heap.size w w' := by
  have HC := Lib.hid ((row_any m hT).mono (fun e w' h => show ∃ q2 g2 : Nat, e = .returned (.tuple #[.pointer (some ⟨q2, 0, none⟩), .int .i64 0]) ∧ RowAt (nS c) L w' q2 g2 ∧ Below w.heap.size w w' from by
    obtain ⟨E, xs, q2, g2, he, hg, hm, _, _, hb⟩ := h
    obtain ⟨e1, e2⟩ := hg.yes hr
    rw [e1] at he
    subst e2
    exact ⟨q2, g2, he, hm, hb⟩))
  have HS : Hid (∀ V : World, Below w.heap.size w V → Calls Tryd.prog 28 #[.pointer (some ⟨s, 0, none⟩)] V fun e w' => e = .returned (.int .i64 (nS c : Int)) ∧ V = w') := fun V hV => slots_any (m.below hV) (hT.below hV)
  have h128 := (cls c m.hc).2.2.2.1
  generalize nS c = N at *
  clear m hT hr
  go_enter Tryd.func26, Tryd.ntmps26
  go_wp2_with fail
  refine HC.out.mono ?_
  rintro e w1 ⟨q2, g2, rfl, hm, hb⟩
  have HB := Lib.hid hb
  have HM := Lib.hid hm
  have HS1 := Lib.hid (HS.out _ hb)
  clear hb hm HC HS
  go_wp2_with fail
  refine HS1.out.mono ?_
  rintro e w' ⟨rfl, rfl⟩
  clear HS1
  go_wp2_with fail
  go_loopw [6, 18] (fun v i wr => ∃ (k : Nat), k ≤ N ∧ i = .int .i64 (k : Int) ∧ wr.ownsRow w.heap.size 3 1 v (tkn L k).length (ints (nats (tkn L k))) ∧ RowAt N L wr q2 g2 ∧ Below w.heap.size w wr) (fun _ i _ => N - (intOf i).toNat)
  case atStart => exact ⟨0, by omega, rfl, World.ownsRow_nil _ _ _ _, HM.out, HB.out⟩
  case round =>
    obtain ⟨k, hk, rfl, ho, hm, hb⟩ := hrel
    obtain ⟨A0, n0, rfl⟩ := own_form ho
    have HO := Lib.hid ho
    have HMr := Lib.hid hm
    have HBr := Lib.hid hb
    have hle := tkn_le L k
    obtain ⟨K, hK⟩ : ∃ K, (tkn L k).length = K := ⟨_, rfl⟩
    rw [hK] at HO hle ⊢
    have HK := Lib.hid hK
    have hsz := hb.size
    clear ho hm hb hK
    by_cases hlt : k < N
    · have HTs : Hid (Calls Tryd.prog 56 #[.pointer (some ⟨q2, 0, none⟩), .int .i64 (k : Int)] wr fun e w' => e = .returned (.bool (decide (k ∈ L))) ∧ Drawn wr w') := by
        obtain ⟨ws, hm⟩ := HMr.out
        have := Bi.test_any q2 g2 _ ws (k : Int) wr hm
        rw [setTo_tst hlt] at this
        exact this
      by_cases hin : k ∈ L
      · have HI := Lib.hid hin
        rw [show decide (k ∈ L) = true by simpa using hin] at HTs
        clear hin
        go_wp2_with fail
        refine HTs.out.mono ?_
        rintro e w2 ⟨rfl, d2⟩
        have D2 := Lib.hid d2.below
        clear d2 HTs
        go_wp2_with fail
        go_roundw
        case rel => exact ⟨k + 1, by omega, by go_num, by rw [tkn_in L k HI.out, HK.out]; exact own_below HO.out D2.out, HMr.out.below D2.out, up_trans HBr.out D2.out⟩
        case measure => simp [intOf]; omega
      · have HI := Lib.hid hin
        rw [show decide (k ∈ L) = false by simpa using hin] at HTs
        clear hin
        go_wp2_with fail
        refine HTs.out.mono ?_
        rintro e w2 ⟨rfl, d2⟩
        have D2 := Lib.hid d2.below
        have HO2 := Lib.hid (own_below HO.out d2.below)
        have HB2 := Lib.hid (up_trans HBr.out d2.below)
        have HM2 := Lib.hid (HMr.out.below d2.below)
        have hsz2 := d2.below.size
        clear d2 HTs HO HBr HMr
        have hol : K ≤ 1048576 := by omega
        go_wp2_with (at_builtin; refine app_law el3 rfl _ _ rfl rfl (own_below HO2.out (up_alloc (Below.refl _ _) _)) rfl (show (w2.alloc (.cells #[.int .i64 (k : Int)] 3)).heap[w2.heap.size]? = some (.cells [Value.int .i64 (k : Int)].toArray 3 (0, 0)) from heap_alloc_new w2 _) rfl (by simp [Value.oneCell']) hol (by rw [World.size_alloc]; omega) ?_; intro g' cap' wa hoa hga hgw; have hga2 : Hid ((w2.alloc (.cells #[.int .i64 (k : Int)] 3)).grownBy wa (Value.slice A0 K n0).ownBlock) := hga; clear hga hgw)
        go_roundw
        case rel =>
          refine ⟨k + 1, by omega, by go_num, ?_, ?_, ?_⟩
          · rw [tkn_out L k HI.out, List.length_append, HK.out, nats_snoc]; exact hoa.out
          · exact (HM2.out.below (up_alloc (Below.refl _ _) _)).keep hga2.out (own_below HO2.out (up_alloc (Below.refl _ _) _))
          · exact (up_alloc HB2.out _).grown hga2.out (by rw [World.size_alloc]; omega) (fun j e => (HO2.out.lt j e).1)
        case measure => simp [intOf]; omega
    · obtain rfl : k = N := by omega
      have HA := Lib.hid (own_li HO.out)
      go_wp2
      go_ret2
      exact ⟨⟨A0, n0, by rw [HK.out]; rfl, HA.out⟩, HBr.out⟩
end
end Go.Proofs.YtaelfgdiboekpaaDoor.Ns
