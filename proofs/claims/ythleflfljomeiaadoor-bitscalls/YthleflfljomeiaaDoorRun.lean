/-
  What Run does: a contract that the claimed proofs use.
-/
import Derived.Test.YthleflfljomeiaaDoorFirst
namespace Go.Proofs.YthleflfljomeiaaDoor
open Go.RowKit

/-- From k on n bits are clear. -/
def runB (l : List Bool) (n k : Nat) : Bool := decide (k + n ≤ l.length) && (List.range n).all fun j => !bt l (k + j)
theorem runB_iff {l : List Bool} {n k : Nat} : runB l n k = true ↔ k + n ≤ l.length ∧ ∀ j, j < n → bt l (k + j) = false := by
  simp [runB]
def leastI (p : Nat → Bool) : Nat → Nat → Int
  | _, 0 => -1
  | k, d + 1 => if p k = true then (k : Int) else leastI p (k + 1) d
/-- The least bit from one on from which on n bits are clear; -1, if there is none. -/
def run (l : List Bool) (f n : Nat) : Int := leastI (runB l n) f (l.length - f)
def IsLeast (p : Nat → Bool) (f N : Nat) (r : Int) : Prop :=
  (r = -1 ∧ ∀ k, f ≤ k → k < N → p k = false) ∨ (∃ k : Nat, r = k ∧ f ≤ k ∧ k < N ∧ p k = true ∧ ∀ j, f ≤ j → j < k → p j = false)
theorem isLeast_I (p : Nat → Bool) (N : Nat) : ∀ (d f : Nat), N - f = d → IsLeast p f N (leastI p f d)
  | 0, f, h => Or.inl ⟨rfl, fun k h1 h2 => by omega⟩
  | d + 1, f, h => by
    rw [leastI]
    split
    · rename_i e
      exact Or.inr ⟨f, rfl, Nat.le_refl _, by omega, e, fun j h1 h2 => by omega⟩
    · rename_i e
      have e' : p f = false := by simpa using e
      rcases isLeast_I p N d (f + 1) (by omega) with ⟨h1, h2⟩ | ⟨k, h1, h2, h3, h4, h5⟩
      · refine Or.inl ⟨h1, fun k hk hl => ?_⟩
        by_cases ek : k = f
        · rw [ek]; exact e'
        · exact h2 k (by omega) hl
      · refine Or.inr ⟨k, h1, by omega, h3, h4, fun j hj hl => ?_⟩
        by_cases ek : j = f
        · rw [ek]; exact e'
        · exact h5 j (by omega) hl
theorem isLeast_run (l : List Bool) (f n : Nat) : IsLeast (runB l n) f l.length (run l f n) := isLeast_I _ _ _ f rfl
theorem isLeast_one {p : Nat → Bool} {f N : Nat} {r s : Int} (h : IsLeast p f N r) (k : IsLeast p f N s) : r = s := by
  rcases h with ⟨rfl, a⟩ | ⟨i, rfl, a1, a2, a3, a4⟩
  · rcases k with ⟨rfl, _⟩ | ⟨j, rfl, b1, b2, b3, _⟩
    · rfl
    · rw [a j b1 b2] at b3; cases b3
  · rcases k with ⟨rfl, b⟩ | ⟨j, rfl, b1, b2, b3, b4⟩
    · rw [b i a1 a2] at a3; cases a3
    · rcases Nat.lt_trichotomy i j with h | h | h
      · rw [b4 i a1 h] at a3; cases a3
      · rw [h]
      · rw [a4 j b1 h] at b3; cases b3

theorem clearUp_any (q g A : Nat) (l : List Bool) (ws : List (BitVec 64)) (w : World) (hm : Bits w q g l ws) (hT : Tab w) (hA : A < l.length) (hcl : bt l A = false) :
    ∃ E : Nat, A < E ∧ E ≤ l.length ∧ (∀ j, A ≤ j → j < E → bt l j = false) ∧ (E < l.length → bt l E = true) ∧
      Calls Tryd.prog 33 #[.pointer (some ⟨q, 0, none⟩), .int .i64 (A : Int)] w fun e w' => e = .returned (.int .i64 (E : Int)) ∧ w = w' := by
  have hc := hm.n
  have hf := first_any q g (A : Int) l ws true w hm hT
  rw [Int.toNat_natCast] at hf
  rcases isFirst_first l A true with ⟨e, h⟩ | ⟨k, e, h1, h2, h3, h4⟩
  · refine ⟨l.length, hA, Nat.le_refl _, fun j h1 h2 => by simpa using h j h1 h2, fun h => absurd h (Nat.lt_irrefl _), ?_⟩
    rw [e] at hf
    have HF := Lib.hid hf
    clear h hf hm hT e
    go_enter Tryd.func33, Tryd.ntmps33
    go_wp2_with (go_at_call 16; refine HF.out.mono ?_; rintro e w' ⟨rfl, rfl⟩)
    go_ret
    exact ⟨rfl, rfl⟩
  · refine ⟨k, ?_, by omega, fun j a b => by simpa using h4 j a b, fun _ => h3, ?_⟩
    · rcases Nat.lt_or_eq_of_le h1 with h | h
      · exact h
      · rw [h] at hcl; rw [hcl] at h3; cases h3
    · rw [e] at hf
      have HF := Lib.hid hf
      have hk : ((k : Int) == -1) = false := by simp
      clear h4 hf hm hT e h3 h1 hcl
      go_enter Tryd.func33, Tryd.ntmps33
      go_wp2_with (go_at_call 16; refine HF.out.mono ?_; rintro e w' ⟨rfl, rfl⟩)
      go_ret
      exact ⟨rfl, rfl⟩
def RunInv (l : List Bool) (F M : Nat) (a : Int) : Prop :=
  (a = -1 ∧ ∀ k, F ≤ k → runB l M k = false) ∨ (∃ A : Nat, a = A ∧ F ≤ A ∧ A < l.length ∧ bt l A = false ∧ ∀ k, F ≤ k → k < A → runB l M k = false)
theorem runB_no {l : List Bool} {M k j : Nat} (h1 : k ≤ j) (h2 : j < k + M) (h3 : bt l j = true) : runB l M k = false := by
  cases h : runB l M k
  · rfl
  · have := (runB_iff.1 h).2 (j - k) (by omega)
    rw [show k + (j - k) = j by omega, h3] at this; cases this
theorem runB_far {l : List Bool} {M k : Nat} (h : l.length < k + M) : runB l M k = false := by
  cases e : runB l M k
  · rfl
  · have := (runB_iff.1 e).1; omega
/-- The next clear bit. -/
theorem next_inv {l : List Bool} {F M G : Nat} (hM : 1 ≤ M) (hG : F ≤ G) (h : ∀ k, F ≤ k → k < G → runB l M k = false) : RunInv l F M (first l G false) := by
  rcases isFirst_first l G false with ⟨e, a⟩ | ⟨k, e, a1, a2, a3, a4⟩
  · refine Or.inl ⟨e, fun k hk => ?_⟩
    by_cases h1 : k < G
    · exact h k hk h1
    · by_cases h2 : k < l.length
      · exact runB_no (Nat.le_refl k) (by omega) (by simpa using a k (by omega) h2)
      · exact runB_far (by omega)
  · refine Or.inr ⟨k, e, by omega, a2, a3, fun j hj hk => ?_⟩
    by_cases h1 : j < G
    · exact h j hj h1
    · exact runB_no (Nat.le_refl j) (by omega) (by simpa using a4 j (by omega) hk)
theorem run_neg (q : Nat) (f n : Int) (w : World) (hn : n < 1) :
    Calls Tryd.prog 19 #[.pointer (some ⟨q, 0, none⟩), .int .i64 f, .int .i64 n] w fun e w' => e = .returned (.int .i64 (-1)) ∧ w = w' := by
  have hd : decide (n < 1) = true := by simpa using hn
  go_enter Tryd.func19, Tryd.ntmps19
  go_wp2
  go_ret
  exact ⟨rfl, rfl⟩
theorem run_yes (q g M : Nat) (f : Int) (l : List Bool) (ws : List (BitVec 64)) (w : World) (hm : Bits w q g l ws) (hT : Tab w) (hM : 1 ≤ M) (hM63 : (M : Int) ≤ 9223372036854775807) :
    Calls Tryd.prog 19 #[.pointer (some ⟨q, 0, none⟩), .int .i64 f, .int .i64 (M : Int)] w fun e w' => e = .returned (.int .i64 (run l f.toNat M)) ∧ w = w' := by
  have hc := hm.n
  have hn := hm.2.2.2.1
  have HF : Hid (∀ G, Calls Tryd.prog 16 #[.pointer (some ⟨q, 0, none⟩), .int .i64 G, .bool false] w fun e w' => e = .returned (.int .i64 (first l G.toNat false)) ∧ w = w') := fun G => first_any q g G l ws false w hm hT
  have HU : Hid (∀ A, A < l.length → bt l A = false → _) := fun A h1 h2 => clearUp_any q g A l ws w hm hT h1 h2
  obtain ⟨n, hl⟩ : ∃ n, l.length = n := ⟨_, rfl⟩
  have HN := Lib.hid hl
  rw [hl] at hc hn
  clear hm hT hl
  have hd : decide ((M : Int) < 1) = false := by simp; omega
  have h0 := HF.out f
  have i0 : RunInv l f.toNat M (first l f.toNat false) := next_inv hM (Nat.le_refl _) (fun k h1 h2 => by omega)
  obtain ⟨a, ha⟩ : ∃ a, first l f.toNat false = a := ⟨_, rfl⟩
  rw [ha] at h0 i0
  have H0 := Lib.hid h0
  have I0 := Lib.hid i0
  obtain ⟨F, hF⟩ : ∃ F, f.toNat = F := ⟨_, rfl⟩
  rw [hF] at I0 ⊢
  clear h0 i0 ha hF
  go_enter Tryd.func19, Tryd.ntmps19
  go_wp2_with (go_at_call 16; refine H0.out.mono ?_; rintro e w' ⟨rfl, rfl⟩)
  go_loop [7] (fun c => ∃ a : Int, c = .int .i64 a ∧ RunInv l F M a) (fun c => if intOf c < 0 then 0 else ((n : Int) - intOf c).toNat)
  case atStart => exact ⟨a, rfl, I0.out⟩
  case round =>
    obtain ⟨a, rfl, hi⟩ := hrel
    rcases hi with ⟨rfl, hno⟩ | ⟨A, rfl, hFA, hA, hcl, hno⟩
    · have HNo := Lib.hid hno
      clear hno
      go_wp2
      go_ret
      exact ⟨ret_i (isLeast_one (Or.inl ⟨rfl, fun k h1 _ => HNo.out k h1⟩) (isLeast_run l F M)), rfl⟩
    · have HNo := Lib.hid hno
      have hne : ((A : Int) != -1) = true := by simp
      have hAn : A < n := by rw [HN.out] at hA; exact hA
      by_cases hr : (M : Int) ≤ (n : Int) - (A : Int)
      · obtain ⟨E, e1, e2, e3, e4, hu⟩ := HU.out A hA hcl
        have HU2 := Lib.hid hu
        have HE3 := Lib.hid e3
        have HE4 := Lib.hid e4
        rw [HN.out] at e2
        clear hu e3 e4 hno hA hcl
        by_cases hfit : (M : Int) ≤ (E : Int) - (A : Int)
        · go_wp2_with (go_at_call 33; refine HU2.out.mono ?_; rintro e w' ⟨rfl, rfl⟩)
          go_ret
          refine ⟨ret_i (isLeast_one (Or.inr ⟨A, rfl, hFA, by rw [HN.out]; exact hAn, runB_iff.2 ⟨by rw [HN.out]; omega, fun j hj => HE3.out _ (by omega) (by omega)⟩, fun j h1 h2 => HNo.out j h1 h2⟩) (isLeast_run l F M)), rfl⟩
        · have hfit2 : decide ((M : Int) ≤ (E : Int) - (A : Int)) = false := by simpa using hfit
          have hff := HF.out (E : Int)
          rw [Int.toNat_natCast] at hff
          have hinv : RunInv l F M (first l E false) := next_inv hM (by omega) (fun k h1 h2 => by
            by_cases h3 : k < A
            · exact HNo.out k h1 h3
            · by_cases h4 : E < l.length
              · exact runB_no (j := E) (by omega) (by omega) (HE4.out h4)
              · exact runB_far (by rw [HN.out] at h4 ⊢; omega))
          have hmore : first l E false = -1 ∨ (A : Int) < first l E false := by
            rcases isFirst_first l E false with ⟨e, _⟩ | ⟨k, e, a1, _⟩
            · exact Or.inl e
            · exact Or.inr (by rw [e]; omega)
          obtain ⟨a, ha⟩ : ∃ a, first l E false = a := ⟨_, rfl⟩
          rw [ha] at hff hinv hmore
          have HFF := Lib.hid hff
          have HI := Lib.hid hinv
          have HMo := Lib.hid hmore
          clear ha hff hinv hmore hfit
          go_wp2_with (first | (go_at_call 33; refine HU2.out.mono ?_; rintro e w' ⟨rfl, rfl⟩) | (go_at_call 16; refine HFF.out.mono ?_; rintro e w' ⟨rfl, rfl⟩))
          go_round
          case rel => exact ⟨a, rfl, HI.out⟩
          case measure =>
            have := HMo.out
            show (if a < 0 then 0 else ((n : Int) - a).toNat) < (if (A : Int) < 0 then 0 else ((n : Int) - (A : Int)).toNat)
            rw [if_neg (by omega : ¬ (A : Int) < 0)]
            split <;> omega
      · have hr2 : decide ((M : Int) ≤ (n : Int) - (A : Int)) = false := by simpa using hr
        clear hno hA hcl
        go_wp2
        go_ret
        refine ⟨ret_i (isLeast_one (Or.inl ⟨rfl, fun k h1 _ => ?_⟩) (isLeast_run l F M)), rfl⟩
        by_cases h3 : k < A
        · exact HNo.out k h1 h3
        · exact runB_far (by rw [HN.out]; omega)
end Go.Proofs.YthleflfljomeiaaDoor
