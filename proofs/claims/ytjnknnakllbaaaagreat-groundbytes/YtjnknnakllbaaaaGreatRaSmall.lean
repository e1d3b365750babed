/-
  What a map of pages is asked: contracts that the claimed proofs use.
-/
import Derived.Test.YtjnknnakllbaaaaGreatRaMem
namespace Go.Proofs.YtjnknnakllbaaaaGreat.Ra
set_option maxRecDepth 100000
open Go.RowKit

section
variable {w : World} {q : Nat} {n t : Int} {g : Gs} {f : Ws}
theorem has_any (p k : Int) (h : Lay w q n t g f) (hs : St n t f) (hp : I64 p) :
    Calls Tryz.prog 98 #[.pointer (some ⟨q, 0, none⟩), .int .i64 p, .int .i64 k] w fun e w' => e = .returned (.bool (inB n p k)) ∧ w = w' := by
  have c0 := h.c0
  have n0 := hs.n0
  have n1 := hs.n1
  clear h hs
  by_cases h0 : 1 ≤ k
  · have d0 : decide (1 ≤ k) = true := by simpa using h0
    by_cases h1 : 0 ≤ p
    · have d1 : decide (0 ≤ p) = true := by simpa using h1
      have e : inB n p k = decide (k ≤ n - p) := by unfold inB; rw [decide_eq_decide]; omega
      rw [e]
      have hw : IntKind.i64.wrap (n - p) = n - p := by rw [IntKind.wrap_i64]; unfold I64 at hp; omega
      clear hp e
      go_enter Tryz.func98, Tryz.ntmps98
      go_wp2
      go_ret
      exact ⟨rfl, rfl⟩
    · have d1 : decide (0 ≤ p) = false := by simpa using h1
      have e : inB n p k = false := inB_no.2 (by omega)
      rw [e]
      clear hp
      go_enter Tryz.func98, Tryz.ntmps98
      go_wp2
      go_ret
      exact ⟨rfl, rfl⟩
  · have d0 : decide (1 ≤ k) = false := by simpa using h0
    have e : inB n p k = false := inB_no.2 (by omega)
    rw [e]
    clear hp
    go_enter Tryz.func98, Tryz.ntmps98
    go_wp2
    go_ret
    exact ⟨rfl, rfl⟩
theorem stamp_any (h : Lay w q n t g f) :
    Calls Tryz.prog 51 #[.pointer (some ⟨q, 0, none⟩)] w fun e w' => e = .returned (.int .u64 t) ∧ w = w' := by
  have c1 := h.c1
  clear h
  go_enter Tryz.func51, Tryz.ntmps51
  go_wp2
  go_ret
  exact ⟨rfl, rfl⟩
theorem next_any (h : Lay w q n t g f) (hs : St n t f) :
    Calls Tryz.prog 96 #[.pointer (some ⟨q, 0, none⟩)] w fun e w' => e = .returned (.int .u64 (nx t)) ∧ w = w' := by
  have c1 := h.c1
  have t0 := hs.t0
  have t1 := hs.t1
  have hw : IntKind.u64.wrap (t + 1) = t + 1 := by rw [IntKind.wrap_u64]; omega
  clear h hs
  go_enter Tryz.func96, Tryz.ntmps96
  go_wp2
  go_ret
  exact ⟨ret_u (by unfold nx; rfl), rfl⟩
theorem ptr_none : ptr none = .pointer none := rfl
theorem ptr_some (b : Nat) : ptr (some b) = .pointer (some ⟨b, 0, none⟩) := rfl
theorem wAt_in {p : Nat} (h : (p : Int) < n) : wAt n f p = f p := by unfold wAt; rw [if_pos (inB_iff.2 (by omega)), Int.toNat_natCast]
theorem wAt_out {p : Int} (h : inB n p 1 = false) : wAt n f p = 0 := by unfold wAt; rw [h]; rfl
theorem word_any (p : Int) (h : Lay w q n t g f) (hs : St n t f) (hp : I64 p) :
    Calls Tryz.prog 83 #[.pointer (some ⟨q, 0, none⟩), .int .i64 p] w fun e w' => e = .returned (.int .u64 (wAt n f p)) ∧ w = w' := by
  have HH := Lib.hid (has_any p 1 h hs hp)
  cases hb : inB n p 1 with
  | false =>
    rw [hb] at HH
    rw [wAt_out hb]
    clear h hs hp hb
    go_enter Tryz.func83, Tryz.ntmps83
    go_wp2_with (go_at_call 98; refine HH.out.mono ?_; rintro e w' ⟨rfl, rfl⟩)
    go_ret
    exact ⟨rfl, rfl⟩
  | true =>
    rw [hb] at HH
    obtain ⟨_, p0, p1⟩ := inB_iff.1 hb
    obtain ⟨k, rfl⟩ : ∃ k : Nat, p = (k : Int) := ⟨p.toNat, by omega⟩
    rw [wAt_in (by omega)]
    have n1 := hs.n1
    obtain ⟨i, hi⟩ : ∃ i, k / 64 = i := ⟨_, rfl⟩
    obtain ⟨j, hj⟩ : ∃ j, k % 64 = j := ⟨_, rfl⟩
    have hi64 : i < 64 := by omega
    have hj64 : j < 64 := by omega
    have ek : 64 * i + j = k := by omega
    have e1 : (k : Int) / 64 = (i : Int) := by omega
    have e2 : (k : Int) % 64 = (j : Int) := by omega
    have cp := h.cp hi64
    cases hgi : g i with
    | none =>
      have hz := h.none i hi64 hgi j hj64
      rw [ek] at hz
      rw [hz]
      rw [hgi, ptr_none] at cp
      clear h hs hp hb hi hj ek hz hgi
      go_enter Tryz.func83, Tryz.ntmps83
      go_wp2_with (go_at_call 98; refine HH.out.mono ?_; rintro e w' ⟨rfl, rfl⟩)
      go_ret
      exact ⟨rfl, rfl⟩
    | some b =>
      have cw := h.cw hi64 hj64 hgi
      rw [ek] at cw
      rw [hgi, ptr_some] at cp
      generalize f k = x at *
      clear h hs hp hb hi hj ek hgi
      go_enter Tryz.func83, Tryz.ntmps83
      go_wp2_with (go_at_call 98; refine HH.out.mono ?_; rintro e w' ⟨rfl, rfl⟩)
      go_ret
      exact ⟨rfl, rfl⟩
end

/-! ### Words and their fields -/
def flV : Value := .agg #[.int .i64 0, .int .i64 1, .int .i64 1, .int .i64 3, .int .i64 4, .int .i64 6, .int .i64 10, .int .i64 2, .int .i64 12, .int .i64 12, .int .i64 24, .int .i64 40]
theorem layout_any (w : World) :
    Calls Tryz.prog 113 #[] w fun e w' => e = .returned flV ∧ Below w.heap.size w w' := by
  go_enter Tryz.func113, Tryz.ntmps113
  go_wp2
  exact bodyPost_ret (v := flV) (by simp [results, Tryz.results32, go_sem, flV]) rfl ⟨rfl, up_alloc (Below.refl _ w) _⟩
end Go.Proofs.YtjnknnakllbaaaaGreat.Ra
