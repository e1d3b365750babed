/-
  Lists of numbers: laws that the claimed proofs use.
-/
import Derived.Test.YtckcgaliphpgeaaGreatDoorHeTaken
namespace Go.Proofs.YtckcgaliphpgeaaGreatDoor.He
set_option maxRecDepth 100000
open Go.RowKit
open Bi (info_parts own_base new_at int_info own_lt)
open Go.Proofs.YtckcgaliphpgeaaGreatDoor.Os (ints ints_len)

/-! ### Lists of numbers -/
theorem ints_getD {xs : List Int} {i : Nat} (h : i < xs.length) : (ints xs)[i]? = some (.int .i64 (xs.getD i 0)) := by
  rw [ints, List.getElem?_map, List.getD_eq_getElem?_getD, List.getElem?_eq_getElem h]; rfl
/-- A list of numbers: of its address something is said only where there is an element. -/
def IA (B : Nat) (w : World) (A : Option Addr) (xs : List Int) : Prop :=
  0 < xs.length → ∃ b o, A = some ⟨b, o, none⟩ ∧ b < B ∧ ∀ j, j < xs.length → w.cell? ⟨b, o + j, none⟩ = some (.int .i64 (xs.getD j 0))
theorem IA.below {B : Nat} {w w' : World} {A : Option Addr} {xs : List Int} (h : IA B w A xs) (hb : Below B w w') : IA B w' A xs := fun hp => by
  obtain ⟨b, o, e, hg, hc⟩ := h hp
  exact ⟨b, o, e, hg, fun i hi => (hb.cell (p := ⟨b, o + i, none⟩) hg).trans (hc i hi)⟩
theorem IA.more {B B' : Nat} {w : World} {A : Option Addr} {xs : List Int} (h : IA B w A xs) (hb : B ≤ B') : IA B' w A xs := fun hp => by
  obtain ⟨b, o, e, hg, hc⟩ := h hp
  exact ⟨b, o, e, by omega, hc⟩
theorem own_ints {w : World} {base g cap n : Nat} {xs : List Int} (h : w.ownsRow base 3 1 (.slice (some ⟨g, 0, none⟩) n cap) n (ints xs)) (hn : xs.length = n) : IA w.heap.size w (some ⟨g, 0, none⟩) xs := fun _ =>
  ⟨g, 0, rfl, own_lt h, fun j hj => by rw [Nat.zero_add, h.cellAt j (by omega)]; exact ints_getD hj⟩
theorem append_int {W : World} {ops : Array Oper} {rest : List Oper} {o : Oper} {a : Act} {Q : Exit → Act → World → Prop} (hgd : o.guard = none) (s x : Operand)
    (ho : o.op = .call { callee := .builtin .append, args := #[s, x], argTypes := #[29, 29] }) (base g cap n m : Nat) (l : List Int) (p : Int)
    (hs : a.eval s = .slice (some ⟨g, 0, none⟩) m cap) (hown : W.ownsRow base 3 1 (.slice (some ⟨g, 0, none⟩) m cap) m (ints l))
    (hx : a.eval x = .slice (some ⟨n, 0, none⟩) 1 1) (hn : W.heap[n]? = some (.cells #[.int .i64 p] 3 (0, 0))) (hl : m ≤ 1048577) (hbase : base ≤ W.heap.size)
    (h : ∀ g' cap' w', Hid (w'.ownsRow base 3 1 (.slice (some ⟨g', 0, none⟩) (m + 1) cap') (m + 1) (ints (l ++ [p]))) → Hid (Below base W w') →
      wpList Tryz.prog ops Q rest (a.put o.dst (.slice (some ⟨g', 0, none⟩) (m + 1) cap')) w') : wpList Tryz.prog ops Q (o :: rest) a W := by
  obtain ⟨i0, hi0, hz0, hz1, hz2⟩ := info_parts int_info
  refine wpList_append_lies W hgd s x 29 ho base 3 i0 _ 1 8 Tryz.underlying29 hi0 hz0 hz1 hz2 rfl (by omega) _ m (ints l) hs hown ⟨n, 0, none⟩ 1 1 [.int .i64 p] hx rfl
    (World.news_of_block (cs := #[.int .i64 p]) (t := 3) (fr := (0, 0)) hn) (by simp [Value.oneCell']) (by omega) (by simp only [maxLen]; omega) (by omega) hbase _ rfl ?_
  intro g' cap' w' h2 h3 _ _
  refine h g' cap' w' ?_ ((Below.refl _ W).grown h3 hbase (own_base hown))
  show World.ownsRow _ _ _ _ _ _ _
  rw [ints, List.map_append]
  exact h2

theorem ints_one (xs : List Int) : ∀ v ∈ ints xs, v.oneCell' = true := by
  intro v hv; obtain ⟨x, _, rfl⟩ := List.mem_map.1 hv; rfl
theorem iown_empty (w : World) : (w.alloc (.cells #[] 3)).ownsRow w.heap.size 3 1 (.slice (some ⟨w.heap.size, 0, none⟩) 0 0) 0 (ints []) :=
  ⟨rfl, .inr ⟨w.heap.size, 0, #[], rfl, Nat.le_refl _, heap_alloc_new w _, Nat.le_refl _, by decide, rfl, rfl⟩⟩
theorem own_single (w : World) (x : Int) : (w.alloc (.cells #[.int .i64 x] 3)).ownsRow w.heap.size 3 1 (.slice (some ⟨w.heap.size, 0, none⟩) 1 1) 1 (ints [x]) :=
  ⟨rfl, .inr ⟨w.heap.size, 1, #[.int .i64 x], rfl, Nat.le_refl _, heap_alloc_new w _, Nat.le_refl _, by decide, rfl, rfl⟩⟩
theorem run_app (W : World) (ty : TypeId) (base g cap n m c N : Nat) (xs cs : List Int) (sp : Option Addr) (hown : W.ownsRow base 3 1 (.slice (some ⟨g, 0, none⟩) n cap) n (ints xs))
    (hm : cs.length = m) (hsp : sp = none → m = 0 ∧ c = 0) (hba : IA N W sp cs) (hl : n + m ≤ 4194304) (hbase : base ≤ W.heap.size) :
    ∃ g' cap' w', (Builtin.append_ #[29, 29] ty #[.slice (some ⟨g, 0, none⟩) n cap, .slice sp m c]).run Tryz.prog W = .ok (.slice (some ⟨g', 0, none⟩) (n + m) cap') w' ∧
      w'.ownsRow base 3 1 (.slice (some ⟨g', 0, none⟩) (n + m) cap') (n + m) (ints (xs ++ cs)) ∧ Below base W w' ∧ W.grownBy w' (some g) := by
  obtain ⟨i0, hi0, hz0, hz1, hz2⟩ := info_parts int_info
  cases sp with
  | none =>
    obtain ⟨rfl, rfl⟩ := hsp rfl
    obtain rfl : cs = [] := List.eq_nil_of_length_eq_zero hm
    refine ⟨g, cap, W, ?_, by rw [List.append_nil]; exact hown, Below.refl _ _, ⟨rfl, rfl, rfl, Nat.le_refl _, fun _ _ _ => rfl⟩⟩
    exact run_append_owned_none (P := Tryz.prog) (w := W) base 29 ty 3 i0 1 Tryz.underlying29 hi0 _ n (ints xs) hown
  | some ad =>
    obtain ⟨v', w', hr, h2, h3, h4⟩ := run_append_own (P := Tryz.prog) W base 29 ty 3 i0 _ 1 8 Tryz.underlying29 hi0 hz0 hz1 hz2 rfl (by omega) _ n (ints xs) hown ad m c (ints cs) (by rw [ints_len, hm, Nat.mul_one]) (fun j v hv => by
      have hj : j < cs.length := by
        rcases Nat.lt_or_ge j cs.length with hj | hj
        · exact hj
        · rw [List.getElem?_eq_none (by rw [ints_len]; exact hj)] at hv; cases hv
      rw [ints_getD hj] at hv
      cases hv
      obtain ⟨b, o', e, _, hc⟩ := hba (by omega)
      cases e
      have e : (⟨b, o', none⟩ : Addr).add j = ⟨b, o' + j, none⟩ := by unfold Addr.add; split <;> simp_all
      rw [e]; exact hc j hj) (ints_one cs) (by simp only [maxLen]; omega) (by omega) hbase
    have h2' := h2
    rcases h2.2 with ⟨rfl, _⟩ | ⟨g', cap', cur, rfl, _⟩
    · have := (h4.1 rfl).1; simp at this
    · refine ⟨g', cap', w', hr, ?_, (Below.refl _ W).grown h3 hbase (own_base hown), h3⟩
      have e : ints (xs ++ cs) = ints xs ++ ints cs := by simp [ints]
      rw [e]; exact h2'
theorem wp_app {W : World} {o : Oper} {a : Act} {K : Act → World → Prop} {Q : Exit → Act → World → Prop} (s x : Operand)
    (ho : o.op = .call { callee := .builtin .append, args := #[s, x], argTypes := #[29, 29] }) (base g cap n m c N : Nat) (xs cs : List Int) (sp : Option Addr)
    (hs : a.eval s = .slice (some ⟨g, 0, none⟩) n cap) (hown : W.ownsRow base 3 1 (.slice (some ⟨g, 0, none⟩) n cap) n (ints xs))
    (hx : a.eval x = .slice sp m c) (hm : cs.length = m) (hsp : sp = none → m = 0 ∧ c = 0) (hba : IA N W sp cs) (hl : n + m ≤ 4194304) (hbase : base ≤ W.heap.size)
    (h : ∀ g' cap' w', Hid (w'.ownsRow base 3 1 (.slice (some ⟨g', 0, none⟩) (n + m) cap') (n + m) (ints (xs ++ cs))) → Hid (Below base W w') → Hid (W.grownBy w' (some g)) → K (a.put o.dst (.slice (some ⟨g', 0, none⟩) (n + m) cap')) w') : o.wp Tryz.prog a W K Q := by
  obtain ⟨g', cap', w', hr, h2, h3, h4⟩ := run_app W o.type base g cap n m c N xs cs sp hown hm hsp hba hl hbase
  unfold Oper.wp execOp
  simp only [ho, resolve, invoke, builtin, Sem.run_bind, Sem.run_pure, Result.andThen_ok, List.map_toArray, List.map_cons, List.map_nil, hs, hx, hr]
  exact h g' cap' w' h2 h3 h4
theorem list_app {W : World} {ops : Array Oper} {rest : List Oper} {o : Oper} {a : Act} {Q : Exit → Act → World → Prop} (hgd : o.guard = none) (s x : Operand)
    (ho : o.op = .call { callee := .builtin .append, args := #[s, x], argTypes := #[29, 29] }) (base g cap n m c N : Nat) (xs cs : List Int) (sp : Option Addr)
    (hs : a.eval s = .slice (some ⟨g, 0, none⟩) n cap) (hown : W.ownsRow base 3 1 (.slice (some ⟨g, 0, none⟩) n cap) n (ints xs))
    (hx : a.eval x = .slice sp m c) (hm : cs.length = m) (hsp : sp = none → m = 0 ∧ c = 0) (hba : IA N W sp cs) (hl : n + m ≤ 4194304) (hbase : base ≤ W.heap.size)
    (h : ∀ g' cap' w', Hid (w'.ownsRow base 3 1 (.slice (some ⟨g', 0, none⟩) (n + m) cap') (n + m) (ints (xs ++ cs))) → Hid (Below base W w') → Hid (W.grownBy w' (some g)) → wpList Tryz.prog ops Q rest (a.put o.dst (.slice (some ⟨g', 0, none⟩) (n + m) cap')) w') : wpList Tryz.prog ops Q (o :: rest) a W :=
  wpList_plain hgd fun _ hK => wp_app s x ho base g cap n m c N xs cs sp hs hown hx hm hsp hba hl hbase fun g' cap' w' h2 h3 h4 => hK _ _ (h g' cap' w' h2 h3 h4)
theorem step_app {W : World} {ops : Array Oper} {o : Oper} {a : Act} {K : Act → World → Prop} {Q : Exit → Act → World → Prop} {E : Prop} (hgd : o.guard = none) (s x : Operand)
    (ho : o.op = .call { callee := .builtin .append, args := #[s, x], argTypes := #[29, 29] }) (base g cap n m c N : Nat) (xs cs : List Int) (sp : Option Addr)
    (hs : a.eval s = .slice (some ⟨g, 0, none⟩) n cap) (hown : W.ownsRow base 3 1 (.slice (some ⟨g, 0, none⟩) n cap) n (ints xs))
    (hx : a.eval x = .slice sp m c) (hm : cs.length = m) (hsp : sp = none → m = 0 ∧ c = 0) (hba : IA N W sp cs) (hl : n + m ≤ 4194304) (hbase : base ≤ W.heap.size)
    (h : ∀ g' cap' w', Hid (w'.ownsRow base 3 1 (.slice (some ⟨g', 0, none⟩) (n + m) cap') (n + m) (ints (xs ++ cs))) → Hid (Below base W w') → Hid (W.grownBy w' (some g)) → K (a.put o.dst (.slice (some ⟨g', 0, none⟩) (n + m) cap')) w') :
    if Region.wanted o (yielded ops a.tmps) = true then Oper.wp Tryz.prog o a W K Q else E := by
  have hw : Region.wanted o (yielded ops a.tmps) = true := by simp [Region.wanted, hgd]
  rw [if_pos hw]
  exact wp_app s x ho base g cap n m c N xs cs sp hs hown hx hm hsp hba hl hbase h
theorem step_app0 {W : World} {ops : Array Oper} {o : Oper} {a : Act} {K : Act → World → Prop} {Q : Exit → Act → World → Prop} {E : Prop} (hgd : o.guard = none) (s x : Operand)
    (ho : o.op = .call { callee := .builtin .append, args := #[s, x], argTypes := #[29, 29] }) (base g cap m c N : Nat) (cs : List Int) (sp : Option Addr)
    (hs : a.eval s = .slice (some ⟨g, 0, none⟩) 0 cap) (hown : W.ownsRow base 3 1 (.slice (some ⟨g, 0, none⟩) 0 cap) 0 (ints []))
    (hx : a.eval x = .slice sp m c) (hm : cs.length = m) (hsp : sp = none → m = 0 ∧ c = 0) (hba : IA N W sp cs) (hl : m ≤ 4194304) (hbase : base ≤ W.heap.size)
    (h : ∀ g' cap' w', Hid (w'.ownsRow base 3 1 (.slice (some ⟨g', 0, none⟩) m cap') m (ints cs)) → Hid (Below base W w') → Hid (W.grownBy w' (some g)) → K (a.put o.dst (.slice (some ⟨g', 0, none⟩) m cap')) w') :
    if Region.wanted o (yielded ops a.tmps) = true then Oper.wp Tryz.prog o a W K Q else E := by
  refine step_app hgd s x ho base g cap 0 m c N [] cs sp hs hown hx hm hsp hba (by omega) hbase ?_
  rw [Nat.zero_add]
  exact h
theorem list_app0 {W : World} {ops : Array Oper} {rest : List Oper} {o : Oper} {a : Act} {Q : Exit → Act → World → Prop} (hgd : o.guard = none) (s x : Operand)
    (ho : o.op = .call { callee := .builtin .append, args := #[s, x], argTypes := #[29, 29] }) (base g cap m c N : Nat) (cs : List Int) (sp : Option Addr)
    (hs : a.eval s = .slice (some ⟨g, 0, none⟩) 0 cap) (hown : W.ownsRow base 3 1 (.slice (some ⟨g, 0, none⟩) 0 cap) 0 (ints []))
    (hx : a.eval x = .slice sp m c) (hm : cs.length = m) (hsp : sp = none → m = 0 ∧ c = 0) (hba : IA N W sp cs) (hl : m ≤ 4194304) (hbase : base ≤ W.heap.size)
    (h : ∀ g' cap' w', Hid (w'.ownsRow base 3 1 (.slice (some ⟨g', 0, none⟩) m cap') m (ints cs)) → Hid (Below base W w') → Hid (W.grownBy w' (some g)) → wpList Tryz.prog ops Q rest (a.put o.dst (.slice (some ⟨g', 0, none⟩) m cap')) w') : wpList Tryz.prog ops Q (o :: rest) a W := by
  refine list_app hgd s x ho base g cap 0 m c N [] cs sp hs hown hx hm hsp hba (by omega) hbase ?_
  rw [Nat.zero_add]
  exact h
theorem IA.one {W : World} {b : Nat} {x : Int} (h : W.cell? ⟨b, 0, none⟩ = some (.int .i64 x)) : IA W.heap.size W (some ⟨b, 0, none⟩) [x] := fun _ =>
  ⟨b, 0, rfl, World.block_lt_of_cell? W _ h, fun j hj => by
    obtain rfl : j = 0 := by simp at hj; omega
    exact h⟩
theorem IA.dropl {B b s : Nat} {w : World} {xs : List Int} (h : IA B w (some ⟨b, 0, none⟩) xs) : IA B w (some ⟨b, s, none⟩) (xs.drop s) := fun hp => by
  rw [List.length_drop] at hp
  obtain ⟨b', o', e, hg, hc⟩ := h (by omega)
  cases e
  refine ⟨b, s, rfl, hg, fun j hj => ?_⟩
  rw [List.length_drop] at hj
  have := hc (s + j) (by omega)
  rw [Nat.zero_add] at this
  rw [this, List.getD_eq_getElem?_getD, List.getD_eq_getElem?_getD, List.getElem?_drop]
theorem IA.takel {B b s : Nat} {w : World} {xs : List Int} (h : IA B w (some ⟨b, 0, none⟩) xs) : IA B w (some ⟨b, 0, none⟩) (xs.take s) := fun hp => by
  rw [List.length_take] at hp
  obtain ⟨b', o', e, hg, hc⟩ := h (by omega)
  cases e
  refine ⟨b, 0, rfl, hg, fun j hj => ?_⟩
  rw [List.length_take] at hj
  rw [hc j (by omega), List.getD_eq_getElem?_getD, List.getD_eq_getElem?_getD, List.getElem?_take, if_pos (by omega)]
end Go.Proofs.YtckcgaliphpgeaaGreatDoor.He
