/-
  Calls that came in, how many are looked at, and what a row of the calls 0 to 4 leaves: contracts that the claimed proofs use.
-/
import Derived.Test.YtckcgaliphpgeaaGreatDoorHeAlive
import Derived.Test.YtckcgaliphpgeaaGreatDoorHeGone
namespace Go.Proofs.YtckcgaliphpgeaaGreatDoor.He
set_option maxRecDepth 100000
open Go.RowKit
open Ri (up up_at up_far)
open Bi (up_trans sets)

/-- Calls that came in. -/
def CA (B : Nat) (w : World) (A : Option Addr) (l : List Cl) : Prop := ∀ j (h : j < l.length), ∃ b o, A = some ⟨b, o, none⟩ ∧ b < B ∧
  w.cell? ⟨b, o + j * 5, none⟩ = some (.int .i64 l[j].x) ∧ w.cell? ⟨b, o + j * 5 + 1, none⟩ = some (.int .i64 l[j].c) ∧ w.cell? ⟨b, o + j * 5 + 2, none⟩ = some (.int .i64 l[j].a) ∧ w.cell? ⟨b, o + j * 5 + 3, none⟩ = some (.int .i64 l[j].n) ∧
  w.cell? ⟨b, o + j * 5 + 4, none⟩ = some (.int .i64 l[j].p) ∧ l[j].ok
theorem CA.below {B : Nat} {w w' : World} {A : Option Addr} {l : List Cl} (h : CA B w A l) (hb : Below B w w') : CA B w' A l := fun j hj => by
  obtain ⟨b, o, e, hl, c0, c1, c2, c3, c4, hok⟩ := h j hj
  have k : ∀ {i : Nat} {v : Value}, w.cell? ⟨b, i, none⟩ = some v → w'.cell? ⟨b, i, none⟩ = some v := fun hv => (hb.cell (p := ⟨b, _, none⟩) hl).trans hv
  exact ⟨b, o, e, hl, k c0, k c1, k c2, k c3, k c4, hok⟩
def greatB (N : Int) (n : Nat) : Bool := decide (60 < N) || decide (60 < n)
theorem great_any (N : Int) (A : Option Addr) (n c : Nat) (w : World) : Calls Tryz.prog 8 #[.int .i64 N, .slice A n c] w fun e w' => e = .returned (.bool (greatB N n)) ∧ w = w' := by
  unfold greatB
  cases h0 : decide (60 < N) with
  | true =>
    go_enter Tryz.func8, Tryz.ntmps8
    go_wp2
    go_ret
    exact ⟨rfl, rfl⟩
  | false =>
    have e : decide ((60 : Int) < (n : Int)) = decide (60 < n) := by rw [Bool.eq_iff_iff]; simp only [decide_eq_true_eq]; omega
    go_enter Tryz.func8, Tryz.ntmps8
    go_wp2
    go_ret
    exact ⟨by simp [e], rfl⟩
section
variable {w w' w0 : World} {x : Nat} {P : Pl} {σ : St} {bs : List (BitVec 8)}
/-- What a row of the calls 0 to 4 leaves. -/
def Rn (w0 V : World) (x h q N : Nat) (j : Nat) (bs : List (BitVec 8)) : Prop := ∃ P σ, Wd w0 V x P σ bs ∧ BK σ ∧ σ.N = N ∧ σ.S.length ≤ 10 + 5000 * j ∧ P.h = h ∧ P.q = q
theorem do04 (h : Wd w0 w x P σ bs) (hb : BK σ) (o : Cl) (ho : o.ok) (hk : 0 ≤ o.x ∧ o.x < 5) (hS : σ.S.length ≤ 900000000000) :
    ∃ σ' l E, Calls Tryz.prog 10 #[.pointer (some ⟨x, 0, none⟩), clV o] w (Done P σ bs w0 x σ' l E w) ∧ BK σ' ∧ σ'.N = σ.N ∧ σ'.S.length ≤ σ.S.length + 64 * σ.N + 1 := by
  have hc : o.x = 0 ∨ o.x = 1 ∨ o.x = 2 ∨ o.x = 3 ∨ o.x = 4 := by omega
  rcases hc with e | e | e | e | e
  · exact ⟨_, _, _, do0 h o ho e hS, hb.take h.hi _, (take_N _ _).1, by have := take_S σ o.c; omega⟩
  · exact ⟨_, _, _, do1 h o ho e hS, hb.give h.hi _, (give_N _ _).1, by have := give_S σ o.a; omega⟩
  · obtain ⟨_, a2, _, _, a5⟩ := some_keep h.hi o.c o.n
    exact ⟨_, _, _, do2 h o ho e hS, hb.some h.hi _ _, a2, a5⟩
  · exact ⟨_, _, _, do3 h o ho e hS, hb.shut h.hi _, (seal_N _ _).1, by have := seal_S σ o.p; omega⟩
  · exact ⟨_, _, _, do4 h o ho e hS, hb.unshut h.hi _, (unseal_N _ _).1, by have := unseal_S σ o.p; omega⟩
theorem bk0 (N : Nat) : BK (σ0 N) := ⟨rfl, fun c => by simp [σ0], fun y _ h => absurd rfl h⟩
theorem Rn.step {h q N j : Nat} {o : Cl} (hr : Rn w0 w x h q N j bs) (ho : o.ok) (hk : 0 ≤ o.x ∧ o.x < 5) (hN : N ≤ 60) (hj : j ≤ 60) :
    Calls Tryz.prog 10 #[.pointer (some ⟨x, 0, none⟩), clV o] w fun e w' => ∃ A n c E, e = .returned (.tuple #[.slice A n c, .int .i64 E]) ∧ Rn w0 w' x h q N (j + 1) bs := by
  obtain ⟨P, σ, hw, hb, hn, hS, h1, h2⟩ := hr
  obtain ⟨σ', l, E, hc, hb', hn', hS'⟩ := do04 hw hb o ho hk (by omega)
  refine hc.mono ?_
  rintro e w' ⟨A, cp, P', rfl, _, hw', p1, p2, _⟩
  exact ⟨A, _, cp, E, rfl, P', σ', hw', hb', hn'.trans hn, by rw [hn] at hS'; omega, p1.trans h1, p2.trans h2⟩
theorem Rn.wait {h q N j : Nat} (hr : Rn w0 w x h q N j bs) : Rn w0 w x h q N (j + 1) bs := by
  obtain ⟨P, σ, hw, hb, hn, hS, h1, h2⟩ := hr
  exact ⟨P, σ, hw, hb, hn, by omega, h1, h2⟩
theorem Rn.below {h q N j : Nat} (hr : Rn w0 w x h q N j bs) (hbl : Below w.heap.size w w') : Rn w0 w' x h q N j bs := by
  obtain ⟨P, σ, hw, hb, hn, hS, h1, h2⟩ := hr
  exact ⟨P, σ, hw.below hbl, hb, hn, hS, h1, h2⟩
theorem Rn.bel {h q N j : Nat} (hr : Rn w0 w x h q N j bs) : Below w0.heap.size w0 w := by
  obtain ⟨P, σ, hw, _⟩ := hr
  exact hw.bel
theorem Wd.early {w1 : World} (h : Wd w1 w x P σ bs) (hb : Below w0.heap.size w0 w1) : Wd w0 w x P σ bs := by
  have hs := hb.size
  obtain ⟨v, h1, h2⟩ := h.blk
  exact ⟨⟨v, h1, Os.own_down h2 hs⟩, h.hm, h.hi, fun k hk => Nat.le_trans hs (h.new k hk), Nat.le_trans hs h.xnew, up_trans hb h.bel⟩
end
end Go.Proofs.YtckcgaliphpgeaaGreatDoor.He
