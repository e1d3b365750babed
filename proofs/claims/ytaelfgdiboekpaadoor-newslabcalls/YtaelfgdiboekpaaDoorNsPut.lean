/-
  What the references' Put does, whose row is its own: a contract that the claimed proof uses.
-/
import Derived.Test.YtaelfgdiboekpaaDoorCeRefPut
namespace Go.Proofs.YtaelfgdiboekpaaDoor.Ce
set_option maxRecDepth 100000
open Go.RowKit

/-- What is left behind a call that answers a list of bytes of its own, and no error. -/
def Gave5 (cs : List (BitVec 8)) (w : World) (e : Ending) (w' : World) : Prop :=
  ∃ g cap, e = .returned (.tuple #[.slice (some ⟨g, 0, none⟩) cs.length cap, .int .i64 0]) ∧ w'.ownsRow w.heap.size 5 1 (.slice (some ⟨g, 0, none⟩) cs.length cap) cs.length (row cs) ∧ Below w.heap.size w w'

set_option maxHeartbeats 2000000 in
theorem rput_own (b o : Nat) (X : Option Addr) (bs xs : List (BitVec 8)) (c s d : Nat) (w : World) (hb : BA w.heap.size w (some ⟨b, o, none⟩) bs) (hx : BA w.heap.size w X xs) (hX : X = none → xs.length = 0 ∧ d = 0) (hL : bs.length ≤ 1048576) (hc : bs.length ≤ c) (hh : s + xs.length ≤ bs.length) :
    Calls Tryd.prog 92 #[.slice (some ⟨b, o, none⟩) bs.length c, .int .i64 (s : Int), .slice X xs.length d] w (Gave5 (splice bs s xs) w) := by
  have hin : hasB bs.length s xs.length = true := hasB_iff.2 ⟨by omega, by omega, by omega⟩
  have HB := Lib.hid hb
  have HX := Lib.hid hx
  have HXN := Lib.hid hX
  have hst := own_empty w
  have HS := Lib.hid hst
  have hlen : (splice bs s xs).length = bs.length := splice_length hh
  obtain ⟨L, hl⟩ : ∃ L, bs.length = L := ⟨_, rfl⟩
  obtain ⟨m, hm⟩ : ∃ m, xs.length = m := ⟨_, rfl⟩
  have HL := Lib.hid hl
  have HM := Lib.hid hm
  rw [hm] at hh hin ⊢
  rw [hl] at hL hc hh hin hlen ⊢
  have HLEN := Lib.hid hlen
  clear hb hx hX hst hl hm hlen
  by_cases hcs : c = s + m
  · obtain rfl : c = L := by omega
    have hge : c ≤ s + m := by omega
    have E0 : Hid (c - (s + m) = 0) := by show _ = _; omega
    clear hcs hc
    go_enter Tryd.func92, Tryd.ntmps92
    go_wp2_with (first
      | (go_at_call 105; refine (in_any c _ _ _ (by omega) (by omega)).mono ?_; rw [hin]; rintro e w' ⟨rfl, rfl⟩)
      | (at_builtin; refine append_bytes (by rfl) _ _ (by rfl) w.heap.size g2 cap2 (s + m) (c - (s + m)) (c - (s + m)) w.heap.size ([] ++ bs.take s ++ xs) [] (some ⟨b, o, none⟩) (by rfl) O2.out (by rfl) (by rw [E0.out]; rfl) (by simp) (BA.empty rfl) (by omega) (by have := B2.out.size; have := B1.out.size; simp at *; omega) ?_; intro g3 cap3 w3 O3 B3)
      | (at_builtin; refine append_bytes (by rfl) _ _ (by rfl) w.heap.size g1 cap1 (0 + s) m d w.heap.size ([] ++ bs.take s) xs X (by simp [Act.eval]) (by simpa using O1.out) (by rfl) HM.out (fun h => by have := HXN.out h; rw [HM.out] at this; exact this) ((HX.out.below (up_alloc (Below.refl _ _) _)).below B1.out) (by omega) (by have := B1.out.size; simp at this; omega) ?_; intro g2 cap2 w2 O2 B2; have O2 := own_zero O2.out; rw [show 0 + s + m = s + m by omega])
      | (at_builtin; refine append_bytes (by rfl) _ _ (by rfl) w.heap.size w.heap.size 0 0 s c w.heap.size [] (bs.take s) (some ⟨b, o, none⟩) (by rfl) HS.out (by rfl) (by rw [List.length_take, HL.out]; omega) (by simp) ((HB.out.below (up_alloc (Below.refl _ _) _)).take s (by rw [HL.out]; omega)) (by omega) (by simp) ?_; intro g1 cap1 w1 O1 B1))
    go_ret2
    have O4 := O3.out
    rw [row_end1 HM.out (by rw [HL.out]; omega)] at O4
    rw [show s + m + (c - (s + m)) = c by omega] at O4
    have hbel : Below w.heap.size w w3 := (((up_alloc (Below.refl _ _) _).trans B1.out).trans B2.out).trans B3.out
    exact ⟨g3, cap3, by rw [HLEN.out, (by omega : c = s + m)]; rfl, by rw [HLEN.out]; exact O4, hbel⟩
  · go_enter Tryd.func92, Tryd.ntmps92
    go_wp2_with (first
      | (go_at_call 105; refine (in_any L _ _ _ (by omega) (by omega)).mono ?_; rw [hin]; rintro e w' ⟨rfl, rfl⟩)
      | (at_builtin; refine append_bytes (by rfl) _ _ (by rfl) w.heap.size g2 cap2 (s + m) (L - (s + m)) (c - (s + m)) w.heap.size ([] ++ bs.take s ++ xs) (bs.drop (s + m)) (some ⟨b, o + (s + m), none⟩) (by rfl) O2.out (by rfl) (by rw [List.length_drop, HL.out]) (by simp) ((((HB.out.below (up_alloc (Below.refl _ _) _)).below B1.out).below B2.out).drop (s + m)) (by omega) (by have := B2.out.size; have := B1.out.size; simp at *; omega) ?_; intro g3 cap3 w3 O3 B3)
      | (at_builtin; refine append_bytes (by rfl) _ _ (by rfl) w.heap.size g1 cap1 (0 + s) m d w.heap.size ([] ++ bs.take s) xs X (by simp [Act.eval]) (by simpa using O1.out) (by rfl) HM.out (fun h => by have := HXN.out h; rw [HM.out] at this; exact this) ((HX.out.below (up_alloc (Below.refl _ _) _)).below B1.out) (by omega) (by have := B1.out.size; simp at this; omega) ?_; intro g2 cap2 w2 O2 B2; have O2 := own_zero O2.out; rw [show 0 + s + m = s + m by omega])
      | (at_builtin; refine append_bytes (by rfl) _ _ (by rfl) w.heap.size w.heap.size 0 0 s c w.heap.size [] (bs.take s) (some ⟨b, o, none⟩) (by rfl) HS.out (by rfl) (by rw [List.length_take, HL.out]; omega) (by simp) ((HB.out.below (up_alloc (Below.refl _ _) _)).take s (by rw [HL.out]; omega)) (by omega) (by simp) ?_; intro g1 cap1 w1 O1 B1))
    go_ret2
    have O4 := O3.out
    rw [row_end2 HM.out] at O4
    rw [show s + m + (L - (s + m)) = L by omega] at O4
    have hbel : Below w.heap.size w w3 := (((up_alloc (Below.refl _ _) _).trans B1.out).trans B2.out).trans B3.out
    exact ⟨g3, cap3, by rw [HLEN.out]; rfl, by rw [HLEN.out]; exact O4, hbel⟩

end Go.Proofs.YtaelfgdiboekpaaDoor.Ce
