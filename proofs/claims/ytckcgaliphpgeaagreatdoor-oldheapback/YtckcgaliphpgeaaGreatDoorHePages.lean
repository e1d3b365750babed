/-
  The pages of a map of slabs, in order: the contract that the claimed proofs use.
-/
import Derived.Test.YtckcgaliphpgeaaGreatDoorHeMap
import Derived.Test.YtckcgaliphpgeaaGreatDoorOsA
namespace Go.Proofs.YtckcgaliphpgeaaGreatDoor.He
set_option maxRecDepth 100000
open Go.RowKit Go.Maps Go.Sort Go.Shelf

theorem sorts (m : Nat) : AnyZI.SortsIn Tryz.prog sortedLay_ren Fence.wide m :=
  ⟨fun blk off cap ss W hH hblk hsz => callsIn_wide.2 (AnyM.slices_Sort_int sortLay blk off cap ss W hH hblk hsz),
   fun p cap W => callsIn_wide.2 (AnyM.slices_Sort_int_none sortLay p cap W)⟩
theorem sorted_is {ss : List Int} {xs : List Nat} {ks : List Int} (h : ss.Perm ks) (k : (nats xs).Perm ks) (hs : xs.Pairwise (· < ·)) : ss.mergeSort (fun x y => decide (x ≤ y)) = nats xs := by
  have e := mergeSort_of_perm_i (h.trans k.symm)
  refine e.trans (List.mergeSort_of_pairwise ?_)
  unfold nats
  exact List.Pairwise.map _ (fun a b h => by simp only [leI, decide_eq_true_eq]; omega) hs
set_option maxHeartbeats 1000000 in
theorem pages_own (h b N : Nat) (m : Nat → Option Nat) (w : World) (hc : w.cell? ⟨h, 1, none⟩ = some (.map (some b))) (hm : Mp w b N m) (hN : N ≤ 4096) :
    Calls Tryz.prog 18 #[.pointer (some ⟨h, 0, none⟩)] w fun e w' => ∃ v, e = .returned v ∧ w'.ownsRow w.heap.size 3 1 v (keysOf N m).length (Os.ints (nats (keysOf N m))) ∧ Below w.heap.size w w' := by
  obtain ⟨D0, hown, hD, hle, hperm⟩ := hm.some_
  have hmax : Maps.size D0 ≤ maxLen := by simp only [maxLen]; omega
  have hbytes : Maps.size D0 * 8 ≤ 140737488355328 := by omega
  refine (callsIn_wide (n := 6)).1 ?_
  have hbl := hown.lt
  have hseq : SeqGives Fence.wide 2 Tryz.prog 98 #[.pointer (some ⟨w.heap.size, 0, none⟩)] encZ (fun ss => ss.Perm (intKeys D0)) (Maps.size D0) (w.alloc (.cells #[.map (some b)] 79)) :=
    AnyZI.keys_gives (ρ := keysLay_ren) { keysLay with } Fence.wide _ trivial rfl (by omega) w.heap.size b _ D0 _ (by simp) (by simp) (by
      obtain ⟨es, clock, hb, Ft, hs, hD⟩ := hown
      exact ⟨es, clock, (Below.heap_alloc _ _ b hbl).trans hb, Ft, hs, hD⟩)
  have cK : ∀ mb W, CallsIn Fence.wide 5 Tryz.prog 49 #[.map mb] W fun e w' => e = .returned (.func (.func 98) #[] #[.pointer (some ⟨W.heap.size, 0, none⟩)]) ∧ w' = W.alloc (.cells #[.map mb] 79) := fun mb W => AnyZI.keys_in keysLay Fence.wide 5 trivial rfl mb W
  have cS := AnyZI.sorted_in sortedLay Fence.wide 5 trivial trivial trivial trivial rfl (by omega) (sorts _) (enters_of Tryz.func97 (by kernel_rfl) rfl) 98 #[.pointer (some ⟨w.heap.size, 0, none⟩)] trivial (enters_of Tryz.func98 (by kernel_rfl) rfl) _ _ hmax hbytes _ hseq
  change CallsIn _ _ Tryz.prog 48 _ _ _ at cS
  have hfK : Fence.wide.fn 49 := trivial
  have hfS : Fence.wide.fn 48 := trivial
  have HP := Lib.hid hperm
  clear hseq hown hD hle hmax hbytes hm hperm
  refine callsIn_of_wp Tryz.func18 rfl trivial ?_ rfl
  simp only [Tryz.ntmps18, List.size_toArray, List.length_cons, List.length_nil, Nat.reduceAdd, Nat.reduceSub, Array.replicate_succ, Array.replicate_zero, List.push_toArray, List.append_toArray, List.nil_append, List.cons_append]
  gi_wp2_with (first
    | (gi_at_call 49; refine (cK _ _).mono ?_; rintro e w' ⟨rfl, rfl⟩)
    | (gi_at_call 48; refine cS.mono ?_; rintro e w' ⟨v, ss, rfl, hS, hrow, hnil, hb⟩)
    | gi_in)
  go_ret
  have e1 := sorted_is hS HP.out (keys_sorted N m)
  rw [e1] at hrow
  have e2 : ss.length = (keysOf N m).length := by
    rw [hS.length_eq, ← HP.out.length_eq]; simp [nats]
  rw [e2] at hrow
  refine ⟨v, rfl, ownsRow_base_a hrow (by simp), ((Below.refl _ w).alloc (Nat.le_refl _) _).trans (hb.mono (by simp))⟩
end Go.Proofs.YtckcgaliphpgeaaGreatDoor.He
