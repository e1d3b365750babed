/-
  What the references' Put and Remove do to lists: contracts that the claimed proofs use.
-/
import Derived.Test.YtjjilnklcjgndaaRefPut
import Derived.Test.YtjjilnklcjgndaaRefLast
import Derived.Test.YtjjilnklcjgndaaRefRem
namespace Go.Proofs.Ytjjilnklcjgndaa
open Go.RowKit

theorem split_one {l A C A' C' : List Nat} {x : Nat} (hn : l.Nodup) (h : l = A ++ x :: C) (h' : l = A' ++ x :: C') : A = A' ∧ C = C' := by
  have e1 : l[A.length]? = some x := by rw [h]; simp
  have e2 : l[A'.length]? = some x := by rw [h']; simp
  have hlt : A.length < l.length := by rw [h]; simp
  have e := (List.getElem?_inj hlt hn).1 (e1.trans e2.symm)
  have h2 : A ++ x :: C = A' ++ x :: C' := h.symm.trans h'
  obtain ⟨h3, h4⟩ := List.append_inj h2 e
  exact ⟨h3, by simpa using h4⟩
theorem AtR.one {n m : Nat} {L : Nat → List Nat} (hg : Good n m L) {x v k v' k' : Int} (h : AtR L x v k) (h' : AtR L x v' k') : v = v' ∧ k = k' := by
  rcases h with ⟨X, i, A, C, rfl, hl, rfl, rfl⟩ | ⟨hno, rfl, rfl⟩ <;> rcases h' with ⟨X', i', A', C', e, hl', rfl, rfl⟩ | ⟨hno', rfl, rfl⟩
  · obtain rfl : X = X' := by omega
    obtain rfl := hg.apart i i' X (by rw [hl]; simp) (by rw [hl']; simp)
    obtain ⟨rfl, _⟩ := split_one (hg.nd i) hl hl'
    exact ⟨rfl, rfl⟩
  · exact absurd (show X ∈ L i by rw [hl]; simp) (hno' X i rfl)
  · exact absurd (show X' ∈ L i' by rw [hl']; simp) (hno X' i' e)
  · exact ⟨rfl, rfl⟩
theorem rin_at {w : World} {g n m : Nat} {L : Nat → List Nat} {x v k : Int} (h : Ref w g n m L) (hg : Good n m L) (hm : m ≤ 256) (hn : n ≤ 4096) (ha : AtR L x v k) :
    Calls Try.prog 11 #[.pointer (some ⟨g + 1, 0, none⟩), .int .i64 x] w fun e w' => e = .returned (.tuple #[.int .i64 v, .int .i64 k]) ∧ w = w' := by
  refine (rin_r h hg hm hn).mono ?_
  rintro e w' ⟨⟨v', k', rfl, ha'⟩, hw⟩
  obtain ⟨rfl, rfl⟩ := ha.one hg ha'
  exact ⟨rfl, hw⟩
theorem own_len {w : World} {base g cap n : Nat} {xs : List Nat} (h : w.ownsRow base 3 1 (.slice (some ⟨g, 0, none⟩) n cap) n (irow xs)) : xs.length = n := by
  have := h.1; rw [irow_length, Nat.mul_one] at this; exact this
/-- What the references' block of lists names now it named before, or it is new. -/
def Newer (g : Nat) (w w' : World) : Prop := ∀ i a N c, w'.cell? ⟨g, i, none⟩ = some (.slice (some a) N c) → w.cell? ⟨g, i, none⟩ = some (.slice (some a) N c) ∨ w.heap.size ≤ a.block
theorem Newer.of {g : Nat} {w w' : World} (h : w'.heap[g]? = w.heap[g]?) : Newer g w w' := fun i a N c hc => .inl (by rw [← cell_same h]; exact hc)
theorem Newer.trans {g : Nat} {w1 w2 w3 : World} (h : Newer g w1 w2) (k : Newer g w2 w3) (hs : w1.heap.size ≤ w2.heap.size) : Newer g w1 w3 := fun i a N c hc => by
  rcases k i a N c hc with e | e
  · exact h i a N c e
  · exact .inr (Nat.le_trans hs e)
theorem ref_set {w wd w' : World} {g n m i g' cap M : Nat} {L : Nat → List Nat} {xs : List Nat} (h : Ref w g n m L) (hi : i < m) (ho : wd.ownsRow w.heap.size 3 1 (.slice (some ⟨g', 0, none⟩) M cap) M (irow xs)) (hb : Below w.heap.size w wd)
    (hd : Drawn (wd.setCell ⟨g, i, none⟩ (.slice (some ⟨g', 0, none⟩) M cap)) w') : Ref w' g n m (up L i xs) ∧ Chg g (g + 1) w w' ∧ Newer g w w' := by
  refine ⟨((h.below hb).set hi (SL.own ho (own_len ho) h.sz)).below hd.below, ((Chg.of hb).trans (Chg.set wd _ (Nat.le_refl _) (by omega))).trans (Chg.of hd.below), fun j a N c hc => ?_⟩
  obtain ⟨vs, hblk, _⟩ := h.row
  have hblk2 : Blk wd g vs 37 := hblk.of (hb.block g hblk.lt)
  have hblk3 := hblk2.set (i := i) (.slice (some ⟨g', 0, none⟩) M cap)
  have hblk4 : Blk w' g (vs.set i (.slice (some ⟨g', 0, none⟩) M cap)) 37 := hblk3.of (hd.below.block g hblk3.lt)
  rw [hblk4.cell, List.getElem?_set] at hc
  rw [hblk.cell]
  split at hc
  · rename_i e
    split at hc
    · cases hc; exact .inr (own_base ho g' rfl)
    · cases hc
  · exact .inl hc
theorem SL.parts {w : World} {lo : Nat} {v : Value} {xs : List Nat} (h : SL w lo v xs) : ∃ A c, v = .slice A xs.length c ∧ xs.length ≤ c ∧ (A = none → xs.length = 0 ∧ c = 0) ∧ (∀ a, A = some a → ∃ b, a = ⟨b, 0, none⟩) ∧ IA w.heap.size w A xs := by
  obtain ⟨A, c, e, h1, h2, h3, h4⟩ := h
  refine ⟨A, c, e, h1, fun hA => ⟨by have := h2 hA; omega, h2 hA⟩, h3, fun hp => ?_⟩
  obtain ⟨b, e, _, h6, h7⟩ := h4 hp
  exact ⟨b, 0, e, h6, fun j hj => by rw [Nat.zero_add]; exact h7 j hj⟩
theorem rput_r {w : World} {g n m : Nat} {L L' : Nat → List Nat} {i x E : Int} {f : Bool} (h : Ref w g n m L) (hg : Good n m L) (hm : m ≤ 256) (hn : n ≤ 4096) (hp : PutR n m L i x f E L') :
    Calls Try.prog 26 #[.pointer (some ⟨g + 1, 0, none⟩), .int .i64 i, .int .i64 x, .bool f] w fun e w' => e = .returned (.int .i64 E) ∧ Ref w' g n m L' ∧ Chg g (g + 1) w w' ∧ Newer g w w' := by
  rcases hp with ⟨hno, rfl, rfl⟩ | ⟨I, X, rfl, rfl, hI, hX, ⟨j, ht⟩, rfl, rfl⟩ | ⟨I, X, rfl, rfl, hI, hX, hno, rfl, rfl⟩
  · exact (rput_bad g n m i x f w h.c0 h.c1 hno).mono fun e w' ⟨he, hw⟩ => ⟨he, hw ▸ h, hw ▸ Chg.refl _ _ _, hw ▸ Newer.of rfl⟩
  · obtain ⟨A, C, hl⟩ := List.append_of_mem ht
    have hin := rin_at h hg hm hn (x := X) (.inl ⟨X, j, A, C, rfl, hl, rfl, rfl⟩)
    exact (rput_there g n m I X _ _ f w h.c0 h.c1 hI hX (by omega) hin).mono fun e w' ⟨he, hw⟩ => ⟨he, hw ▸ h, hw ▸ Chg.refl _ _ _, hw ▸ Newer.of rfl⟩
  · have hin := rin_at h hg hm hn (x := X) (v := -1) (k := -1) (.inr ⟨fun Y i e => by obtain rfl : X = Y := by omega
                                                                                      exact hno i, rfl, rfl⟩)
    obtain ⟨v, hv, hs⟩ := h.at_ hI
    obtain ⟨A, c, rfl, _, hA, _, hia⟩ := hs.parts
    have hle : (L I).length ≤ 4096 := by have := hg.len I; omega
    cases f
    · refine (rput_last g n m I X _ c A (L I) w h.c0 h.c1 hI hX hin hv (h.frozen I) rfl hA hia hle).mono ?_
      rintro e w' ⟨he, g', cap, wd, ho, hb, hd⟩
      exact ⟨he, ref_set h hI ho hb hd⟩
    · refine (rput_first g n m I X _ c A (L I) w h.c0 h.c1 hI hX hin hv (h.frozen I) rfl hA hia hle).mono ?_
      rintro e w' ⟨he, g', cap, wd, ho, hb, hd⟩
      exact ⟨he, ref_set h hI ho hb hd⟩
theorem rrem_r {w : World} {g n m : Nat} {L L' : Nat → List Nat} {x E : Int} (h : Ref w g n m L) (hg : Good n m L) (hm : m ≤ 256) (hn : n ≤ 4096) (hp : RemR n L x E L') :
    Calls Try.prog 27 #[.pointer (some ⟨g + 1, 0, none⟩), .int .i64 x] w fun e w' => e = .returned (.int .i64 E) ∧ Ref w' g n m L' ∧ Chg g (g + 1) w w' ∧ Newer g w w' := by
  rcases hp with ⟨hno, rfl, rfl⟩ | ⟨X, rfl, hX, hno, rfl, rfl⟩ | ⟨X, i, A, C, rfl, hl, rfl, rfl⟩
  · exact (rrem_bad g n x w h.c0 hno).mono fun e w' ⟨he, hw⟩ => ⟨he, hw ▸ h, hw ▸ Chg.refl _ _ _, hw ▸ Newer.of rfl⟩
  · have hin := rin_at h hg hm hn (x := X) (v := -1) (k := -1) (.inr ⟨fun Y i e => by obtain rfl : X = Y := by omega
                                                                                      exact hno i, rfl, rfl⟩)
    exact (rrem_none g n X w h.c0 hX hin).mono fun e w' ⟨he, hw⟩ => ⟨he, hw ▸ h, hw ▸ Chg.refl _ _ _, hw ▸ Newer.of rfl⟩
  · have hx : X ∈ L i := by rw [hl]; simp
    have hi := hg.list_lt hx
    have hX := hg.lt _ _ hx
    have hin := rin_at h hg hm hn (x := X) (.inl ⟨X, i, A, C, rfl, hl, rfl, rfl⟩)
    obtain ⟨v, hv, hs⟩ := h.at_ hi
    obtain ⟨A', c, rfl, hc, hA, hA2, hia⟩ := hs.parts
    have hle : (L i).length ≤ 4096 := by have := hg.len i; omega
    have hK : A.length < (L i).length := by rw [hl]; simp
    cases A' with
    | none => have := (hA rfl).1; omega
    | some a =>
      obtain ⟨b, rfl⟩ := hA2 a rfl
      refine (rrem_w g n m i X _ c A.length b (L i) w h.c0 h.c1 hi hX hin hv (h.frozen i) rfl hc hK hia hle).mono ?_
      rintro e w' ⟨he, g', cap, wd, M, ho, hb, hd⟩
      have e2 : (L i).take A.length ++ (L i).drop (A.length + 1) = A ++ C := by
        rw [hl, List.take_left, show A.length + 1 = (A ++ [X]).length by simp, show A ++ X :: C = (A ++ [X]) ++ C by simp, List.drop_left]
      rw [e2] at ho
      exact ⟨he, ref_set h hi ho hb hd⟩
end Go.Proofs.Ytjjilnklcjgndaa
