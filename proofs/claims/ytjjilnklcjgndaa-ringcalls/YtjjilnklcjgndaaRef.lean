/-
  What the references' New, In and All do: contracts that the claimed proofs use.
-/
import Derived.Test.YtjjilnklcjgndaaAll
namespace Go.Proofs.Ytjjilnklcjgndaa
open Go.RowKit

/-- A value that is a list of numbers, whose block is lo at least. -/
def SL (w : World) (lo : Nat) (v : Value) (xs : List Nat) : Prop :=
  ∃ A c, v = .slice A xs.length c ∧ xs.length ≤ c ∧ (A = none → c = 0) ∧ (∀ a, A = some a → ∃ b, a = ⟨b, 0, none⟩) ∧
    (0 < xs.length → ∃ b, A = some ⟨b, 0, none⟩ ∧ lo ≤ b ∧ b < w.heap.size ∧ ∀ j, j < xs.length → w.cell? ⟨b, j, none⟩ = some (.int .i64 ((xs.getD j 0 : Nat) : Int)))
theorem SL.of {w w' : World} {lo : Nat} {v : Value} {xs : List Nat} (h : SL w lo v xs) (hs : w.heap.size ≤ w'.heap.size) (he : ∀ k, lo ≤ k → k < w.heap.size → w'.heap[k]? = w.heap[k]?) : SL w' lo v xs := by
  obtain ⟨A, c, e, h1, h2, h3, h4⟩ := h
  refine ⟨A, c, e, h1, h2, h3, fun hp => ?_⟩
  obtain ⟨b, e, h5, h6, h7⟩ := h4 hp
  exact ⟨b, e, h5, Nat.lt_of_lt_of_le h6 hs, fun j hj => (cell_same (he b h5 h6)).trans (h7 j hj)⟩
theorem SL.nil (w : World) (lo : Nat) : SL w lo (.slice none 0 0) [] := ⟨none, 0, rfl, Nat.le_refl _, fun _ => rfl, fun _ h => by simp at h, fun h => by simp at h⟩
theorem SL.own {w : World} {base lo g cap n : Nat} {xs : List Nat} (h : w.ownsRow base 3 1 (.slice (some ⟨g, 0, none⟩) n cap) n (irow xs)) (hn : xs.length = n) (hb : lo ≤ base) : SL w lo (.slice (some ⟨g, 0, none⟩) n cap) xs := by
  have hc : n ≤ cap := by
    rcases h.2 with ⟨h', _⟩ | ⟨g', cap', cur, h', _, _, hc, _⟩
    · simp at h'
    · simp only [Value.slice.injEq, Option.some.injEq, Addr.mk.injEq, and_true, true_and] at h'
      obtain ⟨_, rfl⟩ := h'
      exact hc
  refine ⟨some ⟨g, 0, none⟩, cap, by rw [hn], by omega, (fun h => by cases h), (fun a ha => ⟨g, by cases ha; rfl⟩), fun hp => ⟨g, rfl, Nat.le_trans hb (own_base h g rfl), own_lt h, fun j hj => ?_⟩⟩
  rw [h.cellAt j (by omega)]; exact irow_get hj
/-- The references' lists: the block g names them, the block behind it has g and how many items there are. -/
structure Ref (w : World) (g n m : Nat) (L : Nat → List Nat) : Prop where
  sz : g + 2 ≤ w.heap.size
  c0 : w.cell? ⟨g + 1, 0, none⟩ = some (.int .i64 (n : Int))
  c1 : w.cell? ⟨g + 1, 1, none⟩ = some (.slice (some ⟨g, 0, none⟩) m m)
  row : ∃ vs, Blk w g vs 37 ∧ ∀ i, i < m → ∃ v, vs[i]? = some v ∧ SL w (g + 2) v (L i)
theorem Ref.of {w w' : World} {g n m : Nat} {L : Nat → List Nat} (h : Ref w g n m L) (hs : w.heap.size ≤ w'.heap.size) (he : ∀ k, g ≤ k → k < w.heap.size → w'.heap[k]? = w.heap[k]?) : Ref w' g n m L := by
  obtain ⟨sz, c0, c1, vs, hb, hv⟩ := h
  have e := he (g + 1) (by omega) (by omega)
  refine ⟨by omega, (cell_same e).trans c0, (cell_same e).trans c1, vs, hb.of (he g (by omega) (by omega)), fun i hi => ?_⟩
  obtain ⟨v, hv, hl⟩ := hv i hi
  exact ⟨v, hv, hl.of hs (fun k h1 h2 => he k (by omega) h2)⟩
theorem Ref.below {w w' : World} {g n m : Nat} {L : Nat → List Nat} (h : Ref w g n m L) (hb : Below w.heap.size w w') : Ref w' g n m L := h.of hb.size fun k _ hk => hb.block k hk
theorem Ref.far {w w' : World} {g n m lo hi : Nat} {L : Nat → List Nat} (h : Ref w g n m L) (hb : Chg lo hi w w') (hh : hi ≤ g) : Ref w' g n m L := h.of hb.size fun k h1 hk => hb.block k hk (.inr (by omega))
theorem Ref.at_ {w : World} {g n m : Nat} {L : Nat → List Nat} (h : Ref w g n m L) {i : Nat} (hi : i < m) : ∃ v, w.cell? ⟨g, i, none⟩ = some v ∧ SL w (g + 2) v (L i) := by
  obtain ⟨vs, hb, hv⟩ := h.row
  obtain ⟨v, h1, h2⟩ := hv i hi
  exact ⟨v, by rw [hb.cell]; exact h1, h2⟩
theorem Ref.frozen {w : World} {g n m : Nat} {L : Nat → List Nat} (h : Ref w g n m L) (i : Nat) : w.frozen? ⟨g, i, none⟩ = false := by
  obtain ⟨vs, hb, hv⟩ := h.row
  exact hb.frozen i
theorem Ref.set {w : World} {g n m : Nat} {L : Nat → List Nat} (h : Ref w g n m L) {i : Nat} (hi : i < m) {v : Value} {xs : List Nat} (hv : SL w (g + 2) v xs) : Ref (w.setCell ⟨g, i, none⟩ v) g n m (up L i xs) := by
  obtain ⟨sz, c0, c1, vs, hb, hvs⟩ := h
  have e : (w.setCell ⟨g, i, none⟩ v).heap[g + 1]? = w.heap[g + 1]? := set_far v (by omega)
  have hk : ∀ k, g + 2 ≤ k → k < w.heap.size → (w.setCell ⟨g, i, none⟩ v).heap[k]? = w.heap[k]? := fun k h1 _ => set_far v (by omega)
  have hsz : w.heap.size ≤ (w.setCell ⟨g, i, none⟩ v).heap.size := by rw [set_size]; exact Nat.le_refl _
  refine ⟨by omega, (cell_same e).trans c0, (cell_same e).trans c1, _, hb.set v, fun j hj => ?_⟩
  rw [List.getElem?_set]
  by_cases e : i = j
  · subst e
    obtain ⟨v', h', _⟩ := hvs i hi
    have : i < vs.length := by
      rcases Nat.lt_or_ge i vs.length with h | h
      · exact h
      · rw [List.getElem?_eq_none h] at h'; cases h'
    exact ⟨v, by rw [if_pos rfl, if_pos this], by rw [up_at]; exact hv.of hsz hk⟩
  · obtain ⟨v', h', h2⟩ := hvs j hj
    exact ⟨v', by rw [if_neg e]; exact h', by rw [up_far (fun h => e h.symm)]; exact h2.of hsz hk⟩

/-! ### New -/
theorem rnew_no (n m : Int) (w : World) (h : n < 0 ∨ 4096 < n ∨ m < 1 ∨ 256 < m) :
    Calls Try.prog 9 #[.int .i64 n, .int .i64 m] w fun e w' => e = .returned (.tuple #[.pointer none, .int .i64 11]) ∧ w = w' := by
  by_cases h1 : n < 0
  · have d1 : decide (n < 0) = true := by simpa using h1
    go_enter Try.func9, Try.ntmps9
    go_wp2
    go_ret2
    exact ⟨rfl, rfl⟩
  · have d1 : decide (n < 0) = false := by simpa using h1
    by_cases h2 : 4096 < n
    · have d2 : decide (4096 < n) = true := by simpa using h2
      go_enter Try.func9, Try.ntmps9
      go_wp2
      go_ret2
      exact ⟨rfl, rfl⟩
    · have d2 : decide (4096 < n) = false := by simpa using h2
      by_cases h3 : m < 1
      · have d3 : decide (m < 1) = true := by simpa using h3
        go_enter Try.func9, Try.ntmps9
        go_wp2
        go_ret2
        exact ⟨rfl, rfl⟩
      · have d3 : decide (m < 1) = false := by simpa using h3
        have h4 : 256 < m := by omega
        have d4 : decide (256 < m) = true := by simpa using h4
        go_enter Try.func9, Try.ntmps9
        go_wp2
        go_ret2
        exact ⟨rfl, rfl⟩
theorem list_info : (Try.prog.info? 37).map (fun i => (i.zero, i.size, i.bytes)) = some (some (.slice none 0 0), 1, 24) := by kernel_rfl
theorem make_lists (n : Nat) (hn : n ≤ 8192) (W : World) :
    (Instr.makeSlice 38 (.int .i64 (n : Int)) (.int .i64 (n : Int))).run Try.prog W = .ok (.slice (some ⟨W.heap.size, 0, none⟩) n n) (W.alloc (.cells (madeCells #[.slice none 0 0] n) 37)) := by
  obtain ⟨i, hi, hz, hs, hb⟩ := info_parts list_info
  have := run_make (P := Try.prog) W 38 37 i (.slice none 0 0) Try.underlying38 hi hz .i64 .i64 n n (by omega) (by omega) (by rw [hb]; omega) (by omega)
  rw [hs] at this
  simpa [Value.cells] using this
theorem rnew_yes (n m : Nat) (hn : n ≤ 4096) (hm1 : 1 ≤ m) (hm : m ≤ 256) (w : World) :
    Calls Try.prog 9 #[.int .i64 (n : Int), .int .i64 (m : Int)] w fun e w' => e = .returned (.tuple #[.pointer (some ⟨w.heap.size + 1, 0, none⟩), .int .i64 0]) ∧ Ref w' w.heap.size n m (fun _ => []) ∧ Below w.heap.size w w' := by
  have mk := make_lists m (by omega)
  have d1 : decide ((n : Int) < 0) = false := by simp
  have d2 : decide ((4096 : Int) < (n : Int)) = false := by simp; omega
  have d3 : decide ((m : Int) < 1) = false := by simp; omega
  have d4 : decide ((256 : Int) < (m : Int)) = false := by simp; omega
  go_enter Try.func9, Try.ntmps9
  go_wp2
  go_ret2
  refine ⟨rfl, ?_, up_alloc (up_alloc (Below.refl _ _) _) _⟩
  have s1 : (w.alloc (.cells (madeCells #[.slice none 0 0] m) 37)).heap.size = w.heap.size + 1 := World.size_alloc ..
  have hq : Blk ((w.alloc (.cells (madeCells #[.slice none 0 0] m) 37)).alloc (.cells #[.int .i64 (n : Int), .slice (some ⟨w.heap.size, 0, none⟩) m m] 40)) (w.heap.size + 1) [.int .i64 (n : Int), .slice (some ⟨w.heap.size, 0, none⟩) m m] 40 := by
    unfold Blk; rw [← s1]; exact heap_alloc_new _ _
  refine ⟨by rw [World.size_alloc, s1]; omega, hq.cell, hq.cell, List.replicate m (.slice none 0 0), (Blk.made w _ m 37).of (Below.heap_alloc _ _ _ (by omega)), fun i hi => ⟨.slice none 0 0, by rw [List.getElem?_replicate, if_pos hi], SL.nil _ _⟩⟩
/-! ### All -/
theorem rall_no (g m : Nat) (i : Int) (w : World) (c1 : w.cell? ⟨g + 1, 1, none⟩ = some (.slice (some ⟨g, 0, none⟩) m m)) (hi : hasB m i = false) :
    Calls Try.prog 12 #[.pointer (some ⟨g + 1, 0, none⟩), .int .i64 i] w fun e w' => e = .returned (.slice none 0 0) ∧ w = w' := by
  have hb := hasB_not.1 hi
  clear hi
  by_cases h0 : i < 0
  · have d1 : decide (i < 0) = true := by simpa using h0
    go_enter Try.func12, Try.ntmps12
    go_wp2
    go_ret
    exact ⟨rfl, rfl⟩
  · have d1 : decide (i < 0) = false := by simpa using h0
    have d2 : decide ((m : Int) ≤ i) = true := by simp; omega
    go_enter Try.func12, Try.ntmps12
    go_wp2
    go_ret
    exact ⟨rfl, rfl⟩
theorem rall_yes (g m i N c : Nat) (A : Option Addr) (w : World) (c1 : w.cell? ⟨g + 1, 1, none⟩ = some (.slice (some ⟨g, 0, none⟩) m m)) (hi : i < m) (hv : w.cell? ⟨g, i, none⟩ = some (.slice A N c)) :
    Calls Try.prog 12 #[.pointer (some ⟨g + 1, 0, none⟩), .int .i64 (i : Int)] w fun e w' => e = .returned (.slice A N c) ∧ w = w' := by
  have d1 : decide ((i : Int) < 0) = false := by simp
  have d2 : decide ((m : Int) ≤ (i : Int)) = false := by simp; omega
  have b1 : (0 : Int) ≤ (i : Int) := by omega
  have b2 : (i : Int) < (m : Int) := by omega
  go_enter Try.func12, Try.ntmps12
  go_wp2
  go_ret
  exact ⟨rfl, rfl⟩
theorem rall_r {w : World} {g n m : Nat} {L : Nat → List Nat} {i : Int} (h : Ref w g n m L) (hg : Good n m L) :
    Calls Try.prog 12 #[.pointer (some ⟨g + 1, 0, none⟩), .int .i64 i] w fun e w' => (∃ v, e = .returned v ∧ SL w (g + 2) v (of L i)) ∧ w = w' := by
  cases hb : hasB m i
  · exact (rall_no g m i w h.c1 hb).mono fun e w' ⟨he, hw⟩ => ⟨⟨_, he, by rw [of_no hg hb]; exact SL.nil _ _⟩, hw⟩
  · obtain ⟨h2, h3⟩ := hasB_iff.1 hb
    obtain ⟨I, rfl⟩ := Int.eq_ofNat_of_zero_le h2
    have hI : I < m := by omega
    obtain ⟨v, hv, hl⟩ := h.at_ hI
    have hl' := hl
    obtain ⟨A, c, rfl, _⟩ := hl
    exact (rall_yes g m I _ c A w h.c1 hI hv).mono fun e w' ⟨he, hw⟩ => ⟨⟨_, he, by rw [of_nat]; exact hl'⟩, hw⟩
/-! ### In -/
/-- An item's list and place, or -1 and -1. -/
def AtR (L : Nat → List Nat) (x v k : Int) : Prop :=
  (∃ (X i : Nat) (A C : List Nat), x = (X : Int) ∧ L i = A ++ X :: C ∧ v = (i : Int) ∧ k = (A.length : Int)) ∨ ((∀ X i : Nat, x = (X : Int) → X ∉ L i) ∧ v = -1 ∧ k = -1)
theorem rin_r {w : World} {g n m : Nat} {L : Nat → List Nat} {x : Int} (h : Ref w g n m L) (hg : Good n m L) (hm : m ≤ 256) (hn : n ≤ 4096) :
    Calls Try.prog 11 #[.pointer (some ⟨g + 1, 0, none⟩), .int .i64 x] w fun e w' => (∃ v k, e = .returned (.tuple #[.int .i64 v, .int .i64 k]) ∧ AtR L x v k) ∧ w = w' := by
  have c1 := h.c1
  have HAt : Hid (∀ i, i < m → ∃ v, w.cell? ⟨g, i, none⟩ = some v ∧ SL w (g + 2) v (L i)) := fun i hi => h.at_ hi
  have HOut : Hid (∀ i, m ≤ i → L i = []) := hg.out
  have HLen : Hid (∀ i, (L i).length ≤ n) := hg.len
  clear h hg
  go_enter Try.func11, Try.ntmps11
  go_wp2
  go_loop [6] (fun i => ∃ I : Nat, I ≤ m ∧ i = .int .i64 I ∧ ∀ j, j < I → ∀ X ∈ L j, x ≠ (X : Int)) (fun i => m - (intOf i).toNat)
  case atStart => exact ⟨0, by omega, rfl, fun j hj => by omega⟩
  case round =>
    obtain ⟨I, hI, rfl, hno⟩ := hrel
    have HNo := Lib.hid hno
    clear hno
    by_cases hlt : I < m
    · obtain ⟨v, hv, hl⟩ := HAt.out I hlt
      obtain ⟨A, c, rfl, _, _, _, hA⟩ := hl
      have HA := Lib.hid hA
      have hlen := HLen.out I
      obtain ⟨N, hN⟩ : ∃ N, (L I).length = N := ⟨_, rfl⟩
      rw [hN] at hv HA hlen
      have HN := Lib.hid hN
      have b1 : (0 : Int) ≤ (I : Int) := by omega
      have b2 : (I : Int) < (m : Int) := by omega
      clear hA hN
      go_wp2
      go_loop [7] (fun i => ∃ K : Nat, K ≤ N ∧ i = .int .i64 K ∧ ∀ j, j < K → x ≠ (((L I).getD j 0 : Nat) : Int)) (fun i => N - (intOf i).toNat)
      case atStart => exact ⟨0, by omega, rfl, fun j hj => by omega⟩
      case round =>
        obtain ⟨K, hK, rfl, hne⟩ := hrel
        have HNe := Lib.hid hne
        clear hne
        by_cases hlt2 : K < N
        · obtain ⟨b, rfl, _, _, hc⟩ := HA.out (by omega)
          have q1 := hc K hlt2
          clear hc
          obtain ⟨z, hz⟩ : ∃ z, (L I).getD K 0 = z := ⟨_, rfl⟩
          rw [hz] at q1
          have HZ := Lib.hid hz
          have b3 : (0 : Int) ≤ (K : Int) := by omega
          have b4 : (K : Int) < (N : Int) := by omega
          clear hz
          by_cases e : (z : Int) = x
          · subst e
            go_wp2
            go_ret2
            refine ⟨⟨_, _, rfl, .inl ⟨z, I, (L I).take K, (L I).drop (K + 1), rfl, ?_, rfl, ?_⟩⟩, rfl⟩
            · have hKL : K < (L I).length := by rw [HN.out]; exact hlt2
              have := cut_at hKL
              have e2 : (L I)[K] = z := by rw [← HZ.out, List.getD_eq_getElem?_getD, List.getElem?_eq_getElem hKL]; rfl
              rwa [e2] at this
            · rw [List.length_take, HN.out]; omega
          · have hzx : ((z : Int) == x) = false := by simpa using e
            have HE := Lib.hid e
            clear e
            go_wp2
            go_round
            case rel =>
              refine ⟨K + 1, by omega, by go_num, fun j hj => ?_⟩
              by_cases ej : j = K
              · rw [ej, HZ.out]; exact fun h => HE.out h.symm
              · exact HNe.out j (by omega)
            case measure => simp [intOf]; omega
        · obtain rfl : K = N := by omega
          go_wp2
          go_round
          case rel =>
            refine ⟨I + 1, by omega, by go_num, fun j hj X hX => ?_⟩
            by_cases ej : j = I
            · subst ej
              obtain ⟨k, hk, rfl⟩ := List.getElem_of_mem hX
              have := HNe.out k (by rw [← HN.out]; exact hk)
              rwa [List.getD_eq_getElem?_getD, List.getElem?_eq_getElem hk] at this
            · exact HNo.out j (by omega) X hX
          case measure => simp [intOf]; omega
    · obtain rfl : I = m := by omega
      go_wp2
      go_ret2
      refine ⟨⟨_, _, rfl, .inr ⟨fun X i hx hX => ?_, rfl, rfl⟩⟩, rfl⟩
      rcases Nat.lt_or_ge i I with h | h
      · exact HNo.out i h X hX hx
      · rw [HOut.out i h] at hX; simp at hX
end Go.Proofs.Ytjjilnklcjgndaa
