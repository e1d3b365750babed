/-
  Calls that came in, and how many are looked at.
-/
import Derived.Test.YtjnknnakllbaaaaGreatGrAlive
namespace Go.Proofs.YtjnknnakllbaaaaGreat.Gr
set_option maxRecDepth 100000
open Go.RowKit

/-- Calls that came in. -/
def CA (B : Nat) (w : World) (A : Option Addr) (l : List Cl) : Prop := ∀ j (h : j < l.length), ∃ b o, A = some ⟨b, o, none⟩ ∧ b < B ∧
  w.cell? ⟨b, o + j * 7, none⟩ = some (.int .i64 l[j].x) ∧ w.cell? ⟨b, o + j * 7 + 1, none⟩ = some (.int .i64 l[j].g) ∧ w.cell? ⟨b, o + j * 7 + 2, none⟩ = some (.int .i64 l[j].n) ∧ w.cell? ⟨b, o + j * 7 + 3, none⟩ = some (.int .i64 l[j].a) ∧
  w.cell? ⟨b, o + j * 7 + 4, none⟩ = some (.int .i64 l[j].v) ∧ w.cell? ⟨b, o + j * 7 + 5, none⟩ = some (.int .i64 l[j].c) ∧ w.cell? ⟨b, o + j * 7 + 6, none⟩ = some (.int .i64 l[j].s)
theorem CA.below {B : Nat} {w w' : World} {A : Option Addr} {l : List Cl} (h : CA B w A l) (hb : Below B w w') : CA B w' A l := fun j hj => by
  obtain ⟨b, o, e, hl, c0, c1, c2, c3, c4, c5, c6⟩ := h j hj
  have k : ∀ {i : Nat} {v : Value}, w.cell? ⟨b, i, none⟩ = some v → w'.cell? ⟨b, i, none⟩ = some v := fun hv => (hb.cell (p := ⟨b, _, none⟩) hl).trans hv
  exact ⟨b, o, e, hl, k c0, k c1, k c2, k c3, k c4, k c5, k c6⟩
def greatB (N : Int) (n : Nat) : Bool := decide (100 < N) || decide (60 < n)
theorem great_any (N : Int) (A : Option Addr) (n c : Nat) (w : World) : Calls Tryz.prog 7 #[.int .i64 N, .slice A n c] w fun e w' => e = .returned (.bool (greatB N n)) ∧ w = w' := by
  unfold greatB
  cases h0 : decide (100 < N) with
  | true =>
    go_enter Tryz.func7, Tryz.ntmps7
    go_wp2
    go_ret
    exact ⟨rfl, rfl⟩
  | false =>
    have e : decide ((60 : Int) < (n : Int)) = decide (60 < n) := by rw [Bool.eq_iff_iff]; simp only [decide_eq_true_eq]; omega
    go_enter Tryz.func7, Tryz.ntmps7
    go_wp2
    go_ret
    exact ⟨by simp [e], rfl⟩
theorem do_stamp (L : List Sp.Rn) (f : Ra.Ws) (t : Int) (S : List Le.Row) (o : Cl) (h : 0 ≤ t) : 0 ≤ (doO L f t S o).t ∧ (doO L f t S o).t ≤ t + 1 := by
  have hn : 0 ≤ Ra.nx t ∧ Ra.nx t ≤ t + 1 := by unfold Ra.nx; omega
  unfold doO openO closeO markO
  (repeat' split) <;> dsimp only <;> omega
/-- What a row of calls leaves. -/
def Rn (w V : World) (q : Nat) (qc gc : Nat) (N : Int) (j : Nat) (bs : List (BitVec 8)) : Prop := ∃ p L f t S, Ev w V q p N L f t S bs ∧ S.length ≤ j + 1 ∧ (0 ≤ t ∧ t ≤ j) ∧ p.qc = qc ∧ p.gc = gc
theorem Rn.step {w V V' : World} {q qc gc : Nat} {N : Int} {j : Nat} {bs : List (BitVec 8)} {p : Pl} {L : List Sp.Rn} {f : Ra.Ws} {t : Int} {S : List Le.Row} (o : Cl) (h : Ev w V q p N L f t S bs) (hS : S.length ≤ j + 1) (ht : 0 ≤ t ∧ t ≤ j) (h1 : p.qc = qc) (h2 : p.gc = gc)
    (hb : Bec q p N bs (doO L f t S o) V V') : Rn w V' q qc gc N (j + 1) bs := by
  obtain ⟨p', hp, e1, e2⟩ := h.step hb
  have := do_len L f t S o
  have hn := do_stamp L f t S o ht.1
  exact ⟨p', _, _, _, _, hp, by omega, by omega, by rw [e1]; exact h1, by rw [e2]; exact h2⟩
end Go.Proofs.YtjnknnakllbaaaaGreat.Gr
