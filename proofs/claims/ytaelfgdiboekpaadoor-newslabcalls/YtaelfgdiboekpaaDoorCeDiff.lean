/-
  What like, addRow, Differ and SameBytes do: contracts that the claimed proofs use.
-/
import Derived.Test.YtaelfgdiboekpaaDoorCeMove
import Derived.Test.YtaelfgdiboekpaaDoorCeSpans
import Derived.OwnWalk
namespace Go.Proofs.YtaelfgdiboekpaaDoor.Ce
set_option maxRecDepth 100000
open Go.RowKit

theorem like_any (q g q2 g2 : Nat) (ps bs : List (BitVec 8)) (i : Nat) (w : World) (h1 : Mem w q g ps) (h2 : Mem w q2 g2 bs) (hi : i ≤ 1048576) :
    Calls Tryd.prog 74 #[.pointer (some ⟨q, 0, none⟩), .pointer (some ⟨q2, 0, none⟩), .int .i64 (i : Int)] w fun e w' => e = .returned (.bool (likeB ps bs i)) ∧ ∃ k, w' = w.drewN k := by
  have c1 := h1.cell
  have c2 := h2.cell
  by_cases ha : i < ps.length
  · have x1 := h1.2.1.cell ha
    by_cases hb : i < bs.length
    · have x2 := h2.2.1.cell hb
      obtain ⟨p1, e1⟩ : ∃ p, ps.getD i 0#8 = p := ⟨_, rfl⟩
      obtain ⟨p2, e2⟩ : ∃ p, bs.getD i 0#8 = p := ⟨_, rfl⟩
      have HL : Hid (likeB ps bs i = (p1 == p2)) := by show likeB ps bs i = _; unfold likeB; rw [e1, e2]; simp [ha, hb]
      rw [e1] at x1
      rw [e2] at x2
      obtain ⟨L1, l1⟩ : ∃ L, ps.length = L := ⟨_, rfl⟩
      obtain ⟨L2, l2⟩ : ∃ L, bs.length = L := ⟨_, rfl⟩
      rw [l1] at c1 ha
      rw [l2] at c2 hb
      clear e1 e2 l1 l2 h1 h2
      have d1 : (i : Int) < (L1 : Int) := by omega
      have d2 : (i : Int) < (L2 : Int) := by omega
      have d3 : (0 : Int) ≤ (i : Int) := by omega
      go_enter Tryd.func74, Tryd.ntmps74
      go_wp2_with fail
      go_quiet (fail)
      go_wp2
      go_ret
      exact ⟨ret_b (by rw [HL.out, y_beq]), _, rfl⟩
    · have HL : Hid (likeB ps bs i = false) := by show likeB ps bs i = _; unfold likeB; simp [hb]
      obtain ⟨L1, l1⟩ : ∃ L, ps.length = L := ⟨_, rfl⟩
      obtain ⟨L2, l2⟩ : ∃ L, bs.length = L := ⟨_, rfl⟩
      rw [l1] at c1 ha
      rw [l2] at c2 hb
      clear l1 l2 h1 h2 x1
      have d1 : (i : Int) < (L1 : Int) := by omega
      have d2 : decide ((i : Int) < (L2 : Int)) = false := by simp; omega
      go_enter Tryd.func74, Tryd.ntmps74
      go_wp2_with fail
      go_quiet (fail)
      go_wp2
      go_ret
      exact ⟨ret_b (by rw [HL.out]), _, rfl⟩
  · have HL : Hid (likeB ps bs i = false) := by show likeB ps bs i = _; unfold likeB; simp [ha]
    obtain ⟨L1, l1⟩ : ∃ L, ps.length = L := ⟨_, rfl⟩
    rw [l1] at c1 ha
    clear l1 h1 h2
    have d1 : decide ((i : Int) < (L1 : Int)) = false := by simp; omega
    go_enter Tryd.func74, Tryd.ntmps74
    go_wp2_with fail
    go_quiet (fail)
    go_wp2
    go_ret
    exact ⟨ret_b (by rw [HL.out]), _, rfl⟩

/-- The cells of rows of addresses. -/
def flat : List (Nat × Nat) → List Value
  | [] => []
  | p :: l => .int .i64 p.1 :: .int .i64 p.2 :: flat l
theorem flat_append (l m : List (Nat × Nat)) : flat (l ++ m) = flat l ++ flat m := by
  induction l with
  | nil => rfl
  | cons p l ih => simp [flat, ih]
theorem flat_length (l : List (Nat × Nat)) : (flat l).length = l.length * 2 := by
  induction l with
  | nil => rfl
  | cons p l ih => simp [flat, ih]; omega
theorem flat_get (l : List (Nat × Nat)) : ∀ i, i < l.length → (flat l)[i * 2]? = some (.int .i64 (l.getD i (0, 0)).1) ∧ (flat l)[i * 2 + 1]? = some (.int .i64 (l.getD i (0, 0)).2) := by
  induction l with
  | nil => intro i hi; simp at hi
  | cons p l ih =>
    intro i hi
    cases i with
    | zero => exact ⟨rfl, rfl⟩
    | succ i =>
      have := ih i (by simpa using hi)
      rw [show (i + 1) * 2 = i * 2 + 1 + 1 by omega]
      exact this
theorem span_info : (Tryd.prog.info? 66).map (fun i => (i.zero, i.size, i.bytes)) = some (some (.agg #[.int .i64 0, .int .i64 0]), 2, 16) := by kernel_rfl
def Added (base : Nat) (l : List (Nat × Nat)) (w : World) (e : Ending) (w' : World) : Prop :=
  ∃ v', e = .returned v' ∧ w'.ownsRow base 66 2 v' l.length (flat l) ∧ Below base w w'
theorem own_base {w : World} {base n : Nat} {e : TypeId} {size : Nat} {v : Value} {xs : List Value} (h : w.ownsRow base e size v n xs) : ∀ k, v.ownBlock = some k → base ≤ k := by
  intro k hk
  rcases h.2 with ⟨rfl, _⟩ | ⟨g, cap, cur, rfl, hb, _⟩
  · simp [Value.ownBlock] at hk
  · simp [Value.ownBlock] at hk; omega

theorem addRow_any (base : Nat) (v : Value) (l : List (Nat × Nat)) (a b : Nat) (w : World) (hown : w.ownsRow base 66 2 v l.length (flat l)) (hab : a ≤ b) (hb : b ≤ 1048576) (hl : l.length ≤ 1048577) (hbase : base ≤ w.heap.size) :
    Calls Tryd.prog 75 #[v, .int .i64 (a : Int), .int .i64 (b : Int)] w (Added base (addL l a b) w) := by
  by_cases e : a = b
  · subst e
    have HO := Lib.hid hown
    clear hown
    go_enter Tryd.func75, Tryd.ntmps75
    go_wp2
    go_ret
    exact ⟨v, rfl, by rw [addL, if_pos rfl]; exact HO.out, Below.refl _ _⟩
  · obtain ⟨i0, hi0, hz0, hz1, hz2⟩ := info_parts span_info
    have h1 : ((a : Int) == (b : Int)) = false := by simp; omega
    have HO := Lib.hid hown
    have HI := Lib.hid hi0
    have HZ0 := Lib.hid hz0
    have HZ1 := Lib.hid hz1
    have HZ2 := Lib.hid hz2
    clear hown hi0 hz0 hz1 hz2
    go_enter Tryd.func75, Tryd.ntmps75
    go_wp2_with (at_builtin; refine wpList_append_own _ (by rfl) _ _ _ (by rfl) base 66 i0 _ 2 16 Tryd.underlying63 HI.out HZ0.out HZ1.out HZ2.out rfl (by omega) v l.length (flat l) (by rfl) (HO.out.alloc _) ⟨w.heap.size, 0, none⟩ 1 1 [.int .i64 (a : Int), .int .i64 ((b : Int) - (a : Int))] (by rfl) (by rfl) (World.news_of_block (cs := #[.int .i64 (a : Int), .int .i64 ((b : Int) - (a : Int))]) (t := 66) (fr := (0, 0)) (heap_alloc_new w _)) (by simp [Value.oneCell']) (by simp only [maxLen]; omega) (by omega) (by simp; omega) ?_; intro v' w' h2 h3 _; have H2 := Lib.hid h2; have H3 := Lib.hid h3; clear h2 h3)
    go_ret
    refine ⟨v', rfl, ?_, ((Below.refl _ w).alloc hbase _).grown H3.out (by simp; omega) (own_base HO.out)⟩
    rw [addL, if_neg e, flat_append, List.length_append]
    have e2 : ((b - a : Nat) : Int) = (b : Int) - (a : Int) := by omega
    simp only [flat, e2]
    exact H2.out

end Go.Proofs.YtaelfgdiboekpaaDoor.Ce
