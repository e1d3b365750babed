/-
  What the statements' told and great do: contracts that the claimed proofs use.
-/
import Derived.Test.YtdkjbidnelbdeaaTold3n
namespace Go.Proofs.Ytdkjbidnelbdeaa
open Go.RowKit

theorem told_any (q g b c N : Nat) (bs xs : List (BitVec 8)) (what s n f k : Int) (v : BitVec 64) (X : Option Addr) (d : Nat) (w : World) (hm : Mem w q g bs) (hb : BA w.heap.size w (some ⟨b, 0, none⟩) bs) (hc : bs.length ≤ c) (hg : b ≠ g) (hN : N ≤ w.heap.size) (hNg : N ≤ g)
    (hs : s ≤ 9223372036854775807) (hf : f ≤ 9223372036854775807) (hx : BA N w X xs) (hX : X = none → xs.length = 0 ∧ d = 0) :
    Calls Try.prog 9 #[.pointer (some ⟨q, 0, none⟩), .slice (some ⟨b, 0, none⟩) bs.length c, .agg #[.int .i64 what, .int .i64 s, .int .i64 n, .int .i64 f, .int .i64 k, .int .u64 (u v), .slice X xs.length d]] w (ToldPost N q g bs.length w) := by
  by_cases h0 : what = 0
  · subst h0
    cases hno : widthB k && hasB bs.length s k
    · exact told0_no q g b c N bs s n f k v X _ d w hm hb hc hg hN hs hno
    · rw [Bool.and_eq_true] at hno
      obtain ⟨a0, a1, a2⟩ := hasB_iff.1 hno.2
      obtain ⟨s, rfl⟩ := Int.eq_ofNat_of_zero_le a0
      obtain ⟨k, rfl⟩ := Int.eq_ofNat_of_zero_le a1
      exact told0_yes q g b c N s k bs n f v X _ d w hm hb hc hN hNg hno.1 (by omega)
  · by_cases h1 : what = 1
    · subst h1
      cases hno : hasB bs.length s xs.length
      · exact told1_no q g b c N bs s n f k v X _ d w hm hb hc hg hN hs hno
      · obtain ⟨a0, a1, a2⟩ := hasB_iff.1 hno
        obtain ⟨s, rfl⟩ := Int.eq_ofNat_of_zero_le a0
        exact told1_yes q g b c N s bs xs n f k v X d w hm hb hc hN hNg hx hX (by omega)
    · by_cases h2 : what = 2
      · subst h2
        cases hno : hasB bs.length s n
        · exact told2_no q g b c N bs s n f k v X _ d w hm hb hc hg hN hs hno
        · obtain ⟨a0, a1, a2⟩ := hasB_iff.1 hno
          obtain ⟨s, rfl⟩ := Int.eq_ofNat_of_zero_le a0
          obtain ⟨n, rfl⟩ := Int.eq_ofNat_of_zero_le a1
          exact told2_yes q g b c N s n bs f k v X _ d w hm hb hc hg hN hNg (by omega)
      · by_cases h3 : what = 3
        · subst h3
          cases hno : hasB bs.length s n && hasB bs.length f n
          · exact told3_no q g b c N bs s n f k v X _ d w hm hb hc hg hN hs hf hno
          · rw [Bool.and_eq_true] at hno
            obtain ⟨a0, a1, a2⟩ := hasB_iff.1 hno.1
            obtain ⟨a3, _, a5⟩ := hasB_iff.1 hno.2
            obtain ⟨s, rfl⟩ := Int.eq_ofNat_of_zero_le a0
            obtain ⟨n, rfl⟩ := Int.eq_ofNat_of_zero_le a1
            obtain ⟨f, rfl⟩ := Int.eq_ofNat_of_zero_le a3
            rcases Nat.eq_zero_or_pos n with rfl | hp
            · exact told3_none q g b c N s f bs k v X _ d w hm hb hc hg hN hNg (by omega) (by omega)
            · exact told3_yes q g b c N s f n bs k v X _ d w hm hb hc hg hN hNg (by omega) (by omega) hp
        · exact told_other q g b c N bs what s n f k v X _ d w hm hb hc hg hN h0 h1 h2 h3

/-- A call as it comes in. -/
structure Cl where
  what : Int
  s : Int
  n : Int
  f : Int
  k : Int
  v : BitVec 64
  X : Option Addr
  xs : List (BitVec 8)
  d : Nat
def cl0 : Cl := ⟨0, 0, 0, 0, 0, 0#64, none, [], 0⟩
def ClAt (w : World) (b o : Nat) (c : Cl) : Prop :=
  w.cell? ⟨b, o, none⟩ = some (.int .i64 c.what) ∧ w.cell? ⟨b, o + 1, none⟩ = some (.int .i64 c.s) ∧ w.cell? ⟨b, o + 2, none⟩ = some (.int .i64 c.n) ∧ w.cell? ⟨b, o + 3, none⟩ = some (.int .i64 c.f) ∧
    w.cell? ⟨b, o + 4, none⟩ = some (.int .i64 c.k) ∧ w.cell? ⟨b, o + 5, none⟩ = some (.int .u64 (u c.v)) ∧ w.cell? ⟨b, o + 6, none⟩ = some (.slice c.X c.xs.length c.d)
def ClOk (N : Nat) (w : World) (c : Cl) : Prop :=
  c.s ≤ 9223372036854775807 ∧ c.f ≤ 9223372036854775807 ∧ BA N w c.X c.xs ∧ (c.X = none → c.xs.length = 0 ∧ c.d = 0)
/-- A list of calls that came in. -/
def CS (N : Nat) (w : World) (A : Option Addr) (l : List Cl) : Prop :=
  0 < l.length → ∃ b o, A = some ⟨b, o, none⟩ ∧ b < N ∧ ∀ i, i < l.length → ClAt w b (o + i * 7) (l.getD i cl0) ∧ ClOk N w (l.getD i cl0)
theorem ClAt.below {N : Nat} {w w' : World} {b o : Nat} {c : Cl} (h : ClAt w b o c) (hb : b < N) (hw : Below N w w') : ClAt w' b o c := by
  obtain ⟨h0, h1, h2, h3, h4, h5, h6⟩ := h
  exact ⟨(hw.cell (p := ⟨b, o, none⟩) hb).trans h0, (hw.cell (p := ⟨b, o + 1, none⟩) hb).trans h1, (hw.cell (p := ⟨b, o + 2, none⟩) hb).trans h2, (hw.cell (p := ⟨b, o + 3, none⟩) hb).trans h3,
    (hw.cell (p := ⟨b, o + 4, none⟩) hb).trans h4, (hw.cell (p := ⟨b, o + 5, none⟩) hb).trans h5, (hw.cell (p := ⟨b, o + 6, none⟩) hb).trans h6⟩
theorem ClOk.below {N : Nat} {w w' : World} {c : Cl} (h : ClOk N w c) (hw : Below N w w') : ClOk N w' c := ⟨h.1, h.2.1, h.2.2.1.below hw, h.2.2.2⟩
theorem CS.below {N : Nat} {w w' : World} {A : Option Addr} {l : List Cl} (h : CS N w A l) (hw : Below N w w') : CS N w' A l := fun hp => by
  obtain ⟨b, o, e, hb, hc⟩ := h hp
  exact ⟨b, o, e, hb, fun i hi => ⟨(hc i hi).1.below hb hw, (hc i hi).2.below hw⟩⟩

end Go.Proofs.Ytdkjbidnelbdeaa
