/-
  What List, the references' List and SameInts do: contracts that the claimed proofs use.
-/
import Derived.Test.YtiemgeflkmbfoaaDoorBiFirst
namespace Go.Proofs.YtiemgeflkmbfoaaDoor.Bi
set_option maxRecDepth 100000
open Go.RowKit

/-! ### Lists of numbers -/
def irow (xs : List Nat) : List Value := xs.map fun (x : Nat) => Value.int .i64 (x : Int)
theorem irow_length (xs : List Nat) : (irow xs).length = xs.length := by simp [irow]
theorem irow_get {xs : List Nat} {i : Nat} (h : i < xs.length) : (irow xs)[i]? = some (.int .i64 ((xs.getD i 0 : Nat) : Int)) := by
  rw [irow, List.getElem?_map, List.getD_eq_getElem?_getD, List.getElem?_eq_getElem h]; rfl
/-- A list of numbers: of its address something is said only where there is an element. -/
def IA (B : Nat) (w : World) (A : Option Addr) (xs : List Nat) : Prop :=
  0 < xs.length → ∃ b o, A = some ⟨b, o, none⟩ ∧ b < B ∧ ∀ j, j < xs.length → w.cell? ⟨b, o + j, none⟩ = some (.int .i64 ((xs.getD j 0 : Nat) : Int))
theorem IA.below {B : Nat} {w w' : World} {A : Option Addr} {xs : List Nat} (h : IA B w A xs) (hb : Below B w w') : IA B w' A xs := fun hp => by
  obtain ⟨b, o, e, hg, hc⟩ := h hp
  exact ⟨b, o, e, hg, fun i hi => (hb.cell (p := ⟨b, o + i, none⟩) hg).trans (hc i hi)⟩
theorem IA.more {B B' : Nat} {w : World} {A : Option Addr} {xs : List Nat} (h : IA B w A xs) (hb : B ≤ B') : IA B' w A xs := fun hp => by
  obtain ⟨b, o, e, hg, hc⟩ := h hp
  exact ⟨b, o, e, by omega, hc⟩
theorem Drawn.cell {w wr : World} (h : Drawn w wr) {p : Addr} {v : Value} (hc : w.cell? p = some v) : wr.cell? p = some v :=
  (h.below.cell (World.block_lt_of_cell? w p hc)).trans hc

theorem info_parts {t : TypeId} {z : Value} {s b : Nat} (h : (Tryd.prog.info? t).map (fun i => (i.zero, i.size, i.bytes)) = some (some z, s, b)) : ∃ i, Tryd.prog.info? t = some i ∧ i.zero = some z ∧ i.size = s ∧ i.bytes = b := by
  obtain ⟨i, hi, hp⟩ := Option.map_eq_some_iff.1 h
  simp only [Prod.mk.injEq] at hp
  exact ⟨i, hi, hp.1, hp.2.1, hp.2.2⟩
theorem own_base {w : World} {base : Nat} {e : TypeId} {size : Nat} {v : Value} {n : Nat} {xs : List Value} (h : w.ownsRow base e size v n xs) : ∀ g, v.ownBlock = some g → base ≤ g := by
  intro g hg
  rcases h.2 with ⟨rfl, _⟩ | ⟨g', cap, cur, rfl, hb, _⟩
  · simp [Value.ownBlock] at hg
  · simp [Value.ownBlock] at hg; omega
theorem own_lt {w : World} {base g cap n : Nat} {e : TypeId} {size : Nat} {xs : List Value} (h : w.ownsRow base e size (.slice (some ⟨g, 0, none⟩) n cap) n xs) : g < w.heap.size := by
  rcases h.2 with ⟨h', _⟩ | ⟨g', cap', cur, h', _, hb, _⟩
  · simp at h'
  · simp only [Value.slice.injEq, Option.some.injEq, Addr.mk.injEq, and_true, true_and] at h'
    obtain ⟨rfl, rfl⟩ := h'
    exact (Array.getElem?_eq_some_iff.1 hb).1
theorem own_ints {w : World} {base g cap n : Nat} {xs : List Nat} (h : w.ownsRow base 3 1 (.slice (some ⟨g, 0, none⟩) n cap) n (irow xs)) (hn : xs.length = n) : IA w.heap.size w (some ⟨g, 0, none⟩) xs := fun _ =>
  ⟨g, 0, rfl, own_lt h, fun j hj => by rw [Nat.zero_add, h.cellAt j (by omega)]; exact irow_get hj⟩
theorem new_at {w : World} {o : Obj} {n : Nat} (h : w.heap.size = n) : (w.alloc o).heap[n]? = some o := by subst h; exact heap_alloc_new w o
theorem append_int {W : World} {ops : Array Oper} {rest : List Oper} {o : Oper} {a : Act} {Q : Exit → Act → World → Prop} (hgd : o.guard = none) (s x : Operand)
    (ho : o.op = .call { callee := .builtin .append, args := #[s, x], argTypes := #[22, 22] }) (base g cap n m : Nat) (l : List Nat) (p : Nat)
    (hs : a.eval s = .slice (some ⟨g, 0, none⟩) m cap) (hown : W.ownsRow base 3 1 (.slice (some ⟨g, 0, none⟩) m cap) m (irow l))
    (hx : a.eval x = .slice (some ⟨n, 0, none⟩) 1 1) (hn : W.heap[n]? = some (.cells #[.int .i64 (p : Int)] 3 (0, 0))) (hl : m ≤ 1048577) (hbase : base ≤ W.heap.size)
    (h : ∀ g' cap' w', Hid (w'.ownsRow base 3 1 (.slice (some ⟨g', 0, none⟩) (m + 1) cap') (m + 1) (irow (l ++ [p]))) → Hid (Below base W w') →
      wpList Tryd.prog ops Q rest (a.put o.dst (.slice (some ⟨g', 0, none⟩) (m + 1) cap')) w') : wpList Tryd.prog ops Q (o :: rest) a W := by
  obtain ⟨i0, hi0, hz0, hz1, hz2⟩ := info_parts int_info
  refine wpList_append_lies W hgd s x 22 ho base 3 i0 _ 1 8 Tryd.underlying22 hi0 hz0 hz1 hz2 rfl (by omega) _ m (irow l) hs hown ⟨n, 0, none⟩ 1 1 [.int .i64 (p : Int)] hx rfl
    (World.news_of_block (cs := #[.int .i64 (p : Int)]) (t := 3) (fr := (0, 0)) hn) (by simp [Value.oneCell']) (by omega) (by simp only [maxLen]; omega) (by omega) hbase _ rfl ?_
  intro g' cap' w' h2 h3 _ _
  refine h g' cap' w' ?_ ((Below.refl _ W).grown h3 hbase (own_base hown))
  show World.ownsRow _ _ _ _ _ _ _
  rw [irow, List.map_append]
  exact h2

/-- What is left behind a call that answers a list of numbers of its own. -/
def Gave (xs : List Nat) (w : World) (e : Ending) (w' : World) : Prop :=
  ∃ g cap, e = .returned (.slice (some ⟨g, 0, none⟩) xs.length cap) ∧ w.heap.size ≤ g ∧ IA w'.heap.size w' (some ⟨g, 0, none⟩) xs ∧ Below w.heap.size w w'

/-! ### The references' List -/
/-! ### SameInts -/
theorem same_unlike (A B : Option Addr) (n m c d : Nat) (w : World) (h : n ≠ m) :
    Calls Tryd.prog 17 #[.slice A n c, .slice B m d] w fun e w' => e = .returned (.bool false) ∧ Drawn w w' := by
  have hd : ((n : Int) != (m : Int)) = true := by simp; omega
  go_enter Tryd.func17, Tryd.ntmps17
  go_wp2
  go_ret
  exact ⟨rfl, Drawn.refl _⟩
theorem same_none (A B : Option Addr) (c d : Nat) (w : World) :
    Calls Tryd.prog 17 #[.slice A 0 c, .slice B 0 d] w fun e w' => e = .returned (.bool true) ∧ Drawn w w' := by
  go_enter Tryd.func17, Tryd.ntmps17
  go_wp2
  go_loop [5] (fun i => i = .int .i64 0) (fun _ => 0)
  case atStart => rfl
  case round =>
    obtain rfl := hrel
    go_wp2
    go_ret
    exact ⟨rfl, Drawn.refl _⟩
theorem same_some (b o b2 o2 : Nat) (xs ys : List Nat) (c d n : Nat) (w : World) (h1 : ∀ j, j < n → w.cell? ⟨b, o + j, none⟩ = some (.int .i64 ((xs.getD j 0 : Nat) : Int)))
    (h2 : ∀ j, j < n → w.cell? ⟨b2, o2 + j, none⟩ = some (.int .i64 ((ys.getD j 0 : Nat) : Int))) (hl : n ≤ 4096) (hx : xs.length = n) (hy : ys.length = n) :
    Calls Tryd.prog 17 #[.slice (some ⟨b, o, none⟩) n c, .slice (some ⟨b2, o2, none⟩) n d] w fun e w' => e = .returned (.bool (decide (xs = ys))) ∧ Drawn w w' := by
  have H1 := Lib.hid h1
  have H2 := Lib.hid h2
  have HX := Lib.hid hx
  have HY := Lib.hid hy
  have hd : ((n : Int) != (n : Int)) = false := by simp
  clear h1 h2 hx hy
  go_enter Tryd.func17, Tryd.ntmps17
  go_wp2
  go_loopw [5] (fun i wr => ∃ k : Nat, k ≤ n ∧ i = .int .i64 k ∧ (∀ j, j < k → xs.getD j 0 = ys.getD j 0) ∧ Drawn w wr) (fun i _ => n - (intOf i).toNat)
  case atStart => exact ⟨0, by omega, rfl, fun j hj => by omega, Drawn.refl _⟩
  case round =>
    obtain ⟨k, hk, rfl, heq, hdr⟩ := hrel
    have HD := Lib.hid hdr
    have HE := Lib.hid heq
    clear hdr heq
    by_cases hlt : k < n
    · have q1 := HD.out.cell (H1.out k hlt)
      have q2 := HD.out.cell (H2.out k hlt)
      have k1 : (0 : Int) ≤ (k : Int) := by omega
      have k2 : (k : Int) < (n : Int) := by omega
      obtain ⟨x, hx⟩ : ∃ x, xs.getD k 0 = x := ⟨_, rfl⟩
      obtain ⟨z, hz⟩ : ∃ z, ys.getD k 0 = z := ⟨_, rfl⟩
      rw [hx] at q1
      rw [hz] at q2
      have HXX := Lib.hid hx
      have HZ := Lib.hid hz
      clear hx hz
      by_cases e : x = z
      · have hxx : ((x : Int) != (z : Int)) = false := by rw [e]; simp
        have HEE := Lib.hid e
        clear e
        go_wp2_with fail
        go_quiet (fail)
        go_wp2
        go_roundw
        case rel =>
          refine ⟨k + 1, by omega, by go_num, fun j hj => ?_, HD.out.on _⟩
          by_cases ej : j = k
          · rw [ej, HXX.out, HZ.out, HEE.out]
          · exact HE.out j (by omega)
        case measure => simp [intOf]; omega
      · have hxx : ((x : Int) != (z : Int)) = true := by simp; omega
        have HEE := Lib.hid e
        clear e
        go_wp2_with fail
        go_quiet (fail)
        go_wp2
        go_ret
        exact ⟨ret_b (by symm; rw [decide_eq_false_iff_not]; intro e; apply HEE.out; rw [← HXX.out, ← HZ.out, e]), HD.out.on _⟩
    · obtain rfl : k = n := by omega
      go_wp2
      go_ret
      refine ⟨ret_b ?_, HD.out⟩
      symm; rw [decide_eq_true_eq]
      apply List.ext_getElem?
      intro j
      by_cases hj : j < k
      · have := HE.out j hj
        rw [List.getD_eq_getElem?_getD, List.getD_eq_getElem?_getD, List.getElem?_eq_getElem (by rw [HX.out]; exact hj), List.getElem?_eq_getElem (by rw [HY.out]; exact hj)] at this
        rw [List.getElem?_eq_getElem (by rw [HX.out]; exact hj), List.getElem?_eq_getElem (by rw [HY.out]; exact hj)]
        exact congrArg some this
      · rw [List.getElem?_eq_none (by rw [HX.out]; omega), List.getElem?_eq_none (by rw [HY.out]; omega)]
theorem same_any (A B : Option Addr) (xs ys : List Nat) (c d N N2 : Nat) (w : World) (h1 : IA N w A xs) (h2 : IA N2 w B ys) (hl : xs.length ≤ 4096) :
    Calls Tryd.prog 17 #[.slice A xs.length c, .slice B ys.length d] w fun e w' => e = .returned (.bool (decide (xs = ys))) ∧ Drawn w w' := by
  by_cases hxy : xs.length = ys.length
  · rcases Nat.eq_zero_or_pos xs.length with h0 | hp
    · have e1 := List.eq_nil_of_length_eq_zero h0
      have e2 := List.eq_nil_of_length_eq_zero (hxy ▸ h0)
      subst e1 e2
      exact same_none A B c d w
    · obtain ⟨b, o, rfl, _, q1⟩ := h1 hp
      obtain ⟨b2, o2, rfl, _, q2⟩ := h2 (by omega)
      rw [← hxy] at q2 ⊢
      exact same_some b o b2 o2 xs ys c d _ w q1 q2 hl rfl hxy.symm
  · have e : decide (xs = ys) = false := by rw [decide_eq_false_iff_not]; intro e; exact hxy (by rw [e])
    rw [e]
    exact same_unlike A B _ _ c d w hxy
end Go.Proofs.YtiemgeflkmbfoaaDoor.Bi
