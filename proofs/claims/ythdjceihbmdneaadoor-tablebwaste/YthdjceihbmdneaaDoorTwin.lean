/-
  What hasSize, Both and Twin do: contracts that the claimed proofs use.
-/
import Derived.Test.YthdjceihbmdneaaDoorSizes
namespace Go.Proofs.YthdjceihbmdneaaDoor
open Go.RowKit

/-- A call that answers one value and leaves the world, wherever the tables lie. -/
def Same (f : Nat) (args : Array Value) (r : Value) : Prop := ∀ W : World, Tab W → Calls Tryd.prog f args W fun e w' => e = .returned r ∧ W = w'

/-- tableb.hasSize. -/
theorem has_core (v n R S : Int) (b q : Bool) (w : World) (h1 : Calls Tryd.prog 9 #[.int .i64 v, .int .i64 n] w fun e w' => e = .returned (.tuple #[.int .i64 R, .bool b]) ∧ w = w')
    (h2 : Calls Tryd.prog 16 #[.int .i64 v, .int .i64 R] w fun e w' => e = .returned (.int .i64 S) ∧ w = w') (hq : (S == n) = q) :
    Calls Tryd.prog 30 #[.int .i64 v, .int .i64 n] w fun e w' => e = .returned (.bool (b && q)) ∧ w = w' := by
  have H1 := Lib.hid h1
  have H2 := Lib.hid h2
  clear h1 h2
  cases b
  · go_enter Tryd.func30, Tryd.ntmps30
    go_wp2_with (go_at_call 9; refine H1.out.mono ?_; rintro e w' ⟨rfl, rfl⟩)
    go_ret
    exact ⟨rfl, rfl⟩
  · go_enter Tryd.func30, Tryd.ntmps30
    go_wp2_with (first | (go_at_call 9; refine H1.out.mono ?_; rintro e w' ⟨rfl, rfl⟩) | (go_at_call 16; refine H2.out.mono ?_; rintro e w' ⟨rfl, rfl⟩))
    go_ret
    exact ⟨rfl, rfl⟩
theorem has_any (v n : Int) (w : World) (hT : Tab w) : Calls Tryd.prog 30 #[.int .i64 v, .int .i64 n] w fun e w' => e = .returned (.bool (hasB v n)) ∧ w = w' :=
  has_core v n _ _ _ _ w (class_any v n w hT) (size_any v _ w hT) rfl

/-- tableb.Both. -/
theorem both_core (n : Int) (b q : Bool) (w : World) (h1 : Calls Tryd.prog 30 #[.int .i64 0, .int .i64 n] w fun e w' => e = .returned (.bool b) ∧ w = w')
    (h2 : Calls Tryd.prog 30 #[.int .i64 1, .int .i64 n] w fun e w' => e = .returned (.bool q) ∧ w = w') :
    Calls Tryd.prog 20 #[.int .i64 n] w fun e w' => e = .returned (.bool (b && q)) ∧ w = w' := by
  have H1 := Lib.hid h1
  have H2 := Lib.hid h2
  clear h1 h2
  cases b
  · go_enter Tryd.func20, Tryd.ntmps20
    go_wp2_with fail
    refine H1.out.mono ?_
    rintro e w' ⟨rfl, rfl⟩
    go_wp2
    go_ret
    exact ⟨rfl, rfl⟩
  · go_enter Tryd.func20, Tryd.ntmps20
    go_wp2_with fail
    refine H1.out.mono ?_
    rintro e w' ⟨rfl, rfl⟩
    go_wp2_with fail
    refine H2.out.mono ?_
    rintro e w' ⟨rfl, rfl⟩
    go_wp2
    go_ret
    exact ⟨rfl, rfl⟩
theorem both_any (n : Int) (w : World) (hT : Tab w) : Calls Tryd.prog 20 #[.int .i64 n] w fun e w' => e = .returned (.bool (bothB n)) ∧ w = w' :=
  both_core n _ _ w (has_any 0 n w hT) (has_any 1 n w hT)

/-- tableb.other, of a layout. -/
theorem other_any (v : Int) (w : World) (h0 : 0 ≤ v) (h1 : v ≤ 1) : Calls Tryd.prog 29 #[.int .i64 v] w fun e w' => e = .returned (.int .i64 (1 - v)) ∧ w = w' := by
  go_enter Tryd.func29, Tryd.ntmps29
  go_wp2
  go_ret
  exact ⟨rfl, rfl⟩

/-- tableb.Twin. -/
theorem twin_no (v c s : Int) (w : World) (h1 : Calls Tryd.prog 16 #[.int .i64 v, .int .i64 c] w fun e w' => e = .returned (.int .i64 s) ∧ w = w')
    (h2 : Calls Tryd.prog 20 #[.int .i64 s] w fun e w' => e = .returned (.bool false) ∧ w = w') : Calls Tryd.prog 19 #[.int .i64 v, .int .i64 c] w fun e w' => e = .returned (.int .i64 (-1)) ∧ w = w' := by
  have H1 := Lib.hid h1
  have H2 := Lib.hid h2
  clear h1 h2
  go_enter Tryd.func19, Tryd.ntmps19
  go_wp2_with (first | (go_at_call 16; refine H1.out.mono ?_; rintro e w' ⟨rfl, rfl⟩) | (go_at_call 20; refine H2.out.mono ?_; rintro e w' ⟨rfl, rfl⟩))
  go_ret
  exact ⟨rfl, rfl⟩
theorem twin_yes (v c s o R : Int) (b : Bool) (w : World) (h1 : Calls Tryd.prog 16 #[.int .i64 v, .int .i64 c] w fun e w' => e = .returned (.int .i64 s) ∧ w = w')
    (h2 : Calls Tryd.prog 20 #[.int .i64 s] w fun e w' => e = .returned (.bool true) ∧ w = w') (h3 : Calls Tryd.prog 29 #[.int .i64 v] w fun e w' => e = .returned (.int .i64 o) ∧ w = w')
    (h4 : Calls Tryd.prog 9 #[.int .i64 o, .int .i64 s] w fun e w' => e = .returned (.tuple #[.int .i64 R, .bool b]) ∧ w = w') : Calls Tryd.prog 19 #[.int .i64 v, .int .i64 c] w fun e w' => e = .returned (.int .i64 R) ∧ w = w' := by
  have H1 := Lib.hid h1
  have H2 := Lib.hid h2
  have H3 := Lib.hid h3
  have H4 := Lib.hid h4
  clear h1 h2 h3 h4
  go_enter Tryd.func19, Tryd.ntmps19
  go_wp2_with (first | (go_at_call 16; refine H1.out.mono ?_; rintro e w' ⟨rfl, rfl⟩) | (go_at_call 20; refine H2.out.mono ?_; rintro e w' ⟨rfl, rfl⟩) | (go_at_call 29; refine H3.out.mono ?_; rintro e w' ⟨rfl, rfl⟩) | (go_at_call 9; refine H4.out.mono ?_; rintro e w' ⟨rfl, rfl⟩))
  go_ret
  exact ⟨rfl, rfl⟩
theorem twin_any (v c : Int) (w : World) (hT : Tab w) : Calls Tryd.prog 19 #[.int .i64 v, .int .i64 c] w fun e w' => e = .returned (.int .i64 (twin v c)) ∧ w = w' := by
  have hs := size_any v c w hT
  have hb := both_any (sizeOf' v c) w hT
  cases h : bothB (sizeOf' v c)
  · have e : twin v c = -1 := by unfold twin; rw [h]; rfl
    rw [h] at hb
    rw [e]; exact twin_no v c _ w hs hb
  · have e : twin v c = first (1 - v) (sizeOf' v c) 1 := by unfold twin; rw [h]; rfl
    rw [h] at hb
    have hv : 0 ≤ v ∧ v ≤ 1 := by
      rcases layout v with rfl | rfl | ⟨h0, h1⟩
      · omega
      · omega
      · rw [sizeOf_none h0 h1] at h; exact absurd h (by decide +kernel)
    rw [e]; exact twin_yes v c _ _ _ _ w hs hb (other_any v w hv.1 hv.2) (class_any _ _ w hT)

end Go.Proofs.YthdjceihbmdneaaDoor
