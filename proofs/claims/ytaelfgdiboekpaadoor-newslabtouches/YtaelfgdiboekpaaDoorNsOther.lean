/-
  What stays of a slab while another one changes: laws that the claimed proofs use.
-/
import Derived.Test.YtaelfgdiboekpaaDoorNsBreak
namespace Go.Proofs.YtaelfgdiboekpaaDoor.Ns
set_option maxRecDepth 100000
open Go.RowKit
open Ce (u y ldW Mem)
open Bi (Blk Drawn hasB hasB_iff hasB_not up_alloc up_drew up_trans i64_in ret_i ret_b grown_refl grown_trans grown_below)

section
variable {w0 w w' : World} {s q g b c : Nat} {S S' : SS} {L L' : List Nat}
/-- Other blocks have changed, newer than a world. -/
theorem Ev.other (h : Ev w0 w s q g b c S L) {i j : Nat} (hf : Fr i j w w') (hi : w0.heap.size ≤ i ∧ i ≠ s ∧ i ≠ q ∧ i ≠ g) (hj : w0.heap.size ≤ j ∧ j ≠ s ∧ j ≠ q ∧ j ≠ g) (hp : 1 < i ∧ 1 < j) : Ev w0 w' s q g b c S L := by
  obtain ⟨l1, l2, l3⟩ := h.sb.lt
  exact ⟨h.sb.of (hf.block _ l1 (Ne.symm hi.2.1) (Ne.symm hj.2.1)) (hf.block _ l2 (Ne.symm hi.2.2.1) (Ne.symm hj.2.2.1)) (hf.block _ l3 (Ne.symm hi.2.2.2) (Ne.symm hj.2.2.2)), h.rt, h.ns, h.bel.trans (hf.below hi.1 hj.1 h.bel.size), hf.tab h.tb hp.1 hp.2⟩
/-- Free and taken slots are all. -/
theorem tkn_all {N : Nat} {L : List Nat} (hn : L.Nodup) (hin : ∀ k ∈ L, k < N) : (tkn L N).length + L.length = N := by
  have h1 : (tkn L N ++ L).Nodup := by
    refine List.nodup_append.2 ⟨?_, hn, fun a ha b' hb e => ?_⟩
    · unfold tkn; exact List.nodup_range.filter _
    · subst e; exact (mem_tkn.1 ha).2 hb
  have h2 := all_len (N := N) h1 (fun k hk => by
    rcases List.mem_append.1 hk with h | h
    · exact (mem_tkn.1 h).1
    · exact hin k h) (fun k hk => by
    by_cases h : k ∈ L
    · exact List.mem_append_right _ h
    · exact List.mem_append_left _ (mem_tkn.2 ⟨hk, h⟩))
  rw [List.length_append] at h2
  exact h2
/-- A copy of a slab, on a copy of its memory. -/
theorem ev_on {q' g' : Nat} (h : Ev w0 w s q g b c S L) (hm : Mem w q' g' S.bs) (hq : w0.heap.size ≤ q' ∧ w0.heap.size ≤ g') (hp : 1 < q' ∧ 1 < g') : Calls Tryd.prog 36 #[.pointer (some ⟨s, 0, none⟩), .pointer (some ⟨q', 0, none⟩)] w fun e w' =>
    ∃ s', e = .returned (.pointer (some ⟨s', 0, none⟩)) ∧ Ev w0 w' s' q' g' b c S L ∧ w.heap.size ≤ s' ∧ Below w.heap.size w w' :=
  (on_any h.sb hm h.sb.fit hp).mono fun _ _ ⟨s', he, hs, hn, hb⟩ => ⟨s', he, ⟨hs, h.rt, ⟨by have := h.bel.size; omega, hq⟩, up_trans h.bel hb, h.tb.below hb⟩, hn, hb⟩
end
end Go.Proofs.YtaelfgdiboekpaaDoor.Ns
