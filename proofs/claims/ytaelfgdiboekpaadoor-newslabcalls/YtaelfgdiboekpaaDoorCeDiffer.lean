/-
  What Differ and SameBytes do: contracts that the claimed proofs use.
-/
import Derived.Test.YtaelfgdiboekpaaDoorCeDiff
namespace Go.Proofs.YtaelfgdiboekpaaDoor.Ce
set_option maxRecDepth 100000
open Go.RowKit

/-- Rows of addresses that were answered. -/
def SP (B : Nat) (w : World) (A : Option Addr) (l : List (Nat × Nat)) : Prop :=
  0 < l.length → ∃ g, A = some ⟨g, 0, none⟩ ∧ g < B ∧ ∀ i, i < l.length → w.cell? ⟨g, i * 2, none⟩ = some (.int .i64 (l.getD i (0, 0)).1) ∧ w.cell? ⟨g, i * 2 + 1, none⟩ = some (.int .i64 (l.getD i (0, 0)).2)
theorem SP.below {B : Nat} {w w' : World} {A : Option Addr} {l : List (Nat × Nat)} (h : SP B w A l) (hb : Below B w w') : SP B w' A l := fun hp => by
  obtain ⟨g, e, hg, hc⟩ := h hp
  exact ⟨g, e, hg, fun i hi => ⟨(hb.cell (p := ⟨g, i * 2, none⟩) hg).trans (hc i hi).1, (hb.cell (p := ⟨g, i * 2 + 1, none⟩) hg).trans (hc i hi).2⟩⟩
theorem SP.more {B B' : Nat} {w : World} {A : Option Addr} {l : List (Nat × Nat)} (h : SP B w A l) (hb : B ≤ B') : SP B' w A l := fun hp => by
  obtain ⟨g, e, hg, hc⟩ := h hp
  exact ⟨g, e, by omega, hc⟩
theorem own_lt {w : World} {base n g cap : Nat} {e : TypeId} {size : Nat} {xs : List Value} (h : w.ownsRow base e size (.slice (some ⟨g, 0, none⟩) n cap) n xs) : g < w.heap.size := by
  rcases h.2 with ⟨h', _⟩ | ⟨g', cap', cur, h', _, hg, _⟩
  · simp at h'
  · simp only [Value.slice.injEq, Option.some.injEq, Addr.mk.injEq, and_true, true_and] at h'
    obtain ⟨rfl, _⟩ := h'
    exact (Array.getElem?_eq_some_iff.1 hg).1
theorem own_spans {w : World} {base : Nat} {t : TypeId} {v : Value} {l : List (Nat × Nat)} (h : w.ownsRow base t 2 v l.length (flat l)) : ∃ A cap, v = .slice A l.length cap ∧ SP w.heap.size w A l := by
  have h0 := h
  rcases h.2 with ⟨rfl, e⟩ | ⟨g, cap, cur, rfl, hb, hg, _⟩
  · exact ⟨none, 0, by rw [e], fun hp => by omega⟩
  · refine ⟨some ⟨g, 0, none⟩, cap, rfl, fun _ => ⟨g, rfl, own_lt h0, fun i hi => ?_⟩⟩
    have a := flat_get l i hi
    exact ⟨by rw [h0.cellAt _ (by omega)]; exact a.1, by rw [h0.cellAt _ (by omega)]; exact a.2⟩

def Differs (l : List (Nat × Nat)) (w : World) (e : Ending) (w' : World) : Prop :=
  ∃ A cap, e = .returned (.slice A l.length cap) ∧ SP w'.heap.size w' A l ∧ Below w.heap.size w w'

theorem below_drewN {B : Nat} {a w : World} (h : Below B a w) : ∀ k, Below B a (w.drewN k)
  | 0 => h
  | k + 1 => (below_drewN h k).drew
theorem own_drewN {w : World} {base : Nat} {e : TypeId} {size : Nat} {v : Value} {n : Nat} {xs : List Value} (h : w.ownsRow base e size v n xs) : ∀ k, (w.drewN k).ownsRow base e size v n xs
  | 0 => h
  | k + 1 => (own_drewN h k).drew

set_option maxHeartbeats 1000000 in
theorem differ_any (q g q2 g2 : Nat) (ps bs : List (BitVec 8)) (w : World) (h1 : Mem w q g ps) (h2 : Mem w q2 g2 bs) :
    Calls Tryd.prog 27 #[.pointer (some ⟨q, 0, none⟩), .pointer (some ⟨q2, 0, none⟩)] w (Differs (diffL (likeB ps bs) (max ps.length bs.length)) w) := by
  have c1 := h1.cell
  have c2 := h2.cell
  have l1 := h1.2.2
  have l2 := h2.2.2
  have H1 := Lib.hid h1
  have H2 := Lib.hid h2
  clear h1 h2
  obtain ⟨L1, e1⟩ : ∃ L, ps.length = L := ⟨_, rfl⟩
  obtain ⟨L2, e2⟩ : ∃ L, bs.length = L := ⟨_, rfl⟩
  rw [e1] at c1 l1 ⊢
  rw [e2] at c2 l2 ⊢
  clear e1 e2
  obtain ⟨E, hE⟩ : ∃ E, max L1 L2 = E := ⟨_, rfl⟩
  have hcase : (L1 < L2 ∧ E = L2) ∨ (¬ L1 < L2 ∧ E = L1) := by omega
  rw [hE]
  clear hE
  obtain ⟨f, hf⟩ : ∃ f, likeB ps bs = f := ⟨_, rfl⟩
  have HFN := Lib.hid hf
  rw [hf]
  clear hf
  rcases hcase with ⟨hlt, rfl⟩ | ⟨hlt, rfl⟩
  all_goals
    go_enter Tryd.func27, Tryd.ntmps27
    go_wp2_with fail
    refine (len_any q g _ _ c1).mono ?_
    rintro e w' ⟨rfl, rfl⟩
    go_wp2_with fail
    refine (len_any q2 g2 _ _ c2).mono ?_
    rintro e w' ⟨rfl, rfl⟩
    go_wp2
    go_loopw [5, 6, 15] (fun r fr i wr => ∃ (k : Nat) (v : Value), k ≤ E ∧ i = .int .i64 k ∧ fr = .int .i64 ((cellsTo f k).2 : Nat) ∧ v = r ∧ wr.ownsRow w.heap.size 66 2 v (cellsTo f k).1.length (flat (cellsTo f k).1) ∧ Below w.heap.size w wr) (fun _ _ i _ => E - (intOf i).toNat)
    case atStart => exact ⟨0, _, by omega, rfl, rfl, rfl, ⟨rfl, .inl ⟨rfl, rfl⟩⟩, Below.refl _ _⟩
    case round =>
      obtain ⟨k, v, hk, rfl, rfl, rfl, hown, hbel⟩ := hrel
      have HO := Lib.hid hown
      have hsz := hbel.size
      have HB := Lib.hid hbel
      clear hown hbel c1 c2
      have ha := cellsTo_le f k
      have hl := cellsTo_length f k
      by_cases hlt2 : k < E
      · have hli := like_any q g q2 g2 ps bs k wr (H1.out.below HB.out) (H2.out.below HB.out) (by omega)
        rw [HFN.out] at hli
        cases hfk : f k
        · rw [hfk] at hli
          have HLI := Lib.hid hli
          have HFK := Lib.hid hfk
          clear hli hfk
          go_wp2_with fail
          refine HLI.out.mono ?_
          rintro e w2 ⟨rfl, m, rfl⟩
          go_wp2
          go_roundw
          case rel => exact ⟨k + 1, v, by omega, by go_num, by rw [cellsTo, if_neg (by rw [HFK.out]; simp)], rfl, by rw [cellsTo, if_neg (by rw [HFK.out]; simp)]; exact own_drewN HO.out m, below_drewN HB.out m⟩
          case measure => simp [intOf]; omega
        · rw [hfk] at hli
          have HLI := Lib.hid hli
          have HFK := Lib.hid hfk
          clear hli hfk
          go_wp2_with fail
          refine HLI.out.mono ?_
          rintro e w2 ⟨rfl, m, rfl⟩
          go_wp2_with fail
          refine (addRow_any w.heap.size v (cellsTo f k).1 (cellsTo f k).2 k _ (own_drewN HO.out m) ha (by omega) (by omega) (by have := (below_drewN HB.out m).size; exact this)).mono ?_
          rintro e w3 ⟨v3, rfl, ho3, hb3⟩
          have HO3 := Lib.hid ho3
          clear ho3
          go_wp2
          go_roundw
          case rel => exact ⟨k + 1, v3, by omega, by go_num, by rw [cellsTo, if_pos HFK.out]; go_num, rfl, by rw [cellsTo, if_pos HFK.out]; exact HO3.out, (below_drewN HB.out m).trans hb3⟩
          case measure => simp [intOf]; omega
      · obtain rfl : k = E := by omega
        go_wp2_with fail
        refine (addRow_any w.heap.size v (cellsTo f k).1 (cellsTo f k).2 k _ HO.out ha (by omega) (by omega) hsz).mono ?_
        rintro e w3 ⟨v3, rfl, ho3, hb3⟩
        obtain ⟨A, cap, rfl, hsp⟩ := own_spans ho3
        have HSP := Lib.hid hsp
        clear ho3 hsp
        go_wp2
        go_ret
        exact ⟨A, cap, rfl, HSP.out, HB.out.trans hb3⟩

end Go.Proofs.YtaelfgdiboekpaaDoor.Ce
