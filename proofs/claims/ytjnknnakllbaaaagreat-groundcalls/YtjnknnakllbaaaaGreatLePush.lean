/-
  How the reference's lists grow: laws that the claimed proof uses.
-/
import Derived.Test.YtjnknnakllbaaaaGreatLeRow
namespace Go.Proofs.YtjnknnakllbaaaaGreat.Le
set_option maxRecDepth 100000
open Go.RowKit Go.Maps

theorem own_base' {w : World} {base g cap n : Nat} {e : TypeId} {size : Nat} {xs : List Value} (h : w.ownsRow base e size (.slice (some ⟨g, 0, none⟩) n cap) n xs) : base ≤ g := by
  rcases h.2 with ⟨h', _⟩ | ⟨g', cap', cur, h', hb, _⟩
  · simp at h'
  · simp only [Value.slice.injEq, Option.some.injEq, Addr.mk.injEq, and_true, true_and] at h'
    obtain ⟨rfl, rfl⟩ := h'
    exact hb
theorem rowL_one (f : Row) : ∀ v ∈ rowL f, v.oneCell' = true := by
  intro v hv
  simp only [rowL, List.mem_cons, List.not_mem_nil, or_false] at hv
  rcases hv with rfl | rfl | rfl | rfl | rfl | rfl | rfl | rfl <;> rfl
theorem rowL_len (f : Row) : (rowL f).length = 8 := rfl
theorem rown_empty (w : World) : (w.alloc (.cells #[] 3)).ownsRow w.heap.size 3 1 (.slice (some ⟨w.heap.size, 0, none⟩) 0 0) 0 [] :=
  ⟨rfl, .inr ⟨w.heap.size, 0, #[], rfl, Nat.le_refl _, heap_alloc_last w _, Nat.le_refl _, by decide, rfl, rfl⟩⟩
theorem owned_row {w : World} {base r c : Nat} {f : Row} (h : w.ownsRow base 3 1 (.slice (some ⟨r, 0, none⟩) 8 c) 8 (rowL f)) : RowS base w (.slice (some ⟨r, 0, none⟩) 8 c) f := by
  rcases h.2 with ⟨h', _⟩ | ⟨g', cap', cur, h', hbs, hb, _, _, _, ht⟩
  · simp at h'
  · simp only [Value.slice.injEq, Option.some.injEq, Addr.mk.injEq, and_true, true_and] at h'
    obtain ⟨rfl, rfl⟩ := h'
    refine ⟨_, _, cur.toList, rfl, hbs, by unfold Blk; simpa using hb, fun j hj => ?_⟩
    rw [← rowL_at f hj, ← ht, List.getElem?_take, if_pos (by omega)]
/-- A row is copied into a list of its own. -/
theorem list_copy {W : World} {ops : Array Oper} {rest : List Oper} {o : Oper} {a : Act} {Q : Exit → Act → World → Prop} (hgd : o.guard = none) (s x : Operand)
    (ho : o.op = .call { callee := .builtin .append, args := #[s, x], argTypes := #[58, 58] }) (base g r c B : Nat) (f : Row)
    (hs : a.eval s = .slice (some ⟨g, 0, none⟩) 0 0) (hown : W.ownsRow base 3 1 (.slice (some ⟨g, 0, none⟩) 0 0) 0 [])
    (hx : a.eval x = .slice (some ⟨r, 0, none⟩) 8 c) (hr : RowS B W (.slice (some ⟨r, 0, none⟩) 8 c) f) (hbase : base ≤ W.heap.size)
    (h : ∀ r' c' w', Hid (RowS base w' (.slice (some ⟨r', 0, none⟩) 8 c') f) → base ≤ r' → Hid (Below base W w') →
      wpList Tryz.prog ops Q rest (a.put o.dst (.slice (some ⟨r', 0, none⟩) 8 c')) w') : wpList Tryz.prog ops Q (o :: rest) a W := by
  obtain ⟨i0, hi0, hz0, hz1, hz2⟩ := info_parts int_parts
  refine wpList_append_lies W hgd s x 58 ho base 3 i0 _ 1 8 Tryz.underlying58 hi0 hz0 hz1 hz2 rfl (by omega) _ 0 [] hs hown ⟨r, 0, none⟩ 8 c (rowL f) hx rfl
    (fun j v hv => ?_) (rowL_one f) (by omega) (by simp only [maxLen]; omega) (by omega) hbase _ rfl ?_
  · have hj : j < 8 := by
      rcases Nat.lt_or_ge j 8 with hj | hj
      · exact hj
      · rw [List.getElem?_eq_none (by rw [rowL_len]; exact hj)] at hv; cases hv
    rw [rowL_at f hj] at hv
    cases hv
    have e : (⟨r, 0, none⟩ : Addr).add j = ⟨r, j, none⟩ := by unfold Addr.add; split <;> simp_all
    rw [e]; exact hr.cell hj
  · intro g' cap' w' h2 h3 _ _
    rw [Nat.zero_add, List.nil_append] at h2
    have hb := (Below.refl base W).grown h3 hbase (fun k hk => by cases hk; exact own_base' hown)
    rw [Nat.zero_add]
    exact h g' cap' w' (owned_row h2) (own_base' h2) hb
/-- A list is added to the lists. -/
theorem list_push {W : World} {ops : Array Oper} {rest : List Oper} {o : Oper} {a : Act} {Q : Exit → Act → World → Prop} (hgd : o.guard = none) (s x : Operand)
    (ho : o.op = .call { callee := .builtin .append, args := #[s, x], argTypes := #[103, 103] }) (base g cap n m : Nat) (us : List Value) (v : Value)
    (hs : a.eval s = .slice (some ⟨g, 0, none⟩) n cap) (hown : W.ownsRow base 58 1 (.slice (some ⟨g, 0, none⟩) n cap) n us)
    (hx : a.eval x = .slice (some ⟨m, 0, none⟩) 1 1) (hm : W.heap[m]? = some (.cells #[v] 58 (0, 0))) (hv : v.oneCell' = true) (hn : n ≤ 100000) (hbase : base ≤ W.heap.size)
    (h : ∀ g' cap' w', Hid (w'.ownsRow base 58 1 (.slice (some ⟨g', 0, none⟩) (n + 1) cap') (n + 1) (us ++ [v])) → Hid (W.grownBy w' (some g)) →
      wpList Tryz.prog ops Q rest (a.put o.dst (.slice (some ⟨g', 0, none⟩) (n + 1) cap')) w') : wpList Tryz.prog ops Q (o :: rest) a W := by
  obtain ⟨i0, hi0, hz0, hz1, hz2⟩ := info_parts slice_parts
  refine wpList_append_lies W hgd s x 103 ho base 58 i0 _ 1 24 Tryz.underlying103 hi0 hz0 hz1 hz2 rfl (by omega) _ n us hs hown ⟨m, 0, none⟩ 1 1 [v] hx rfl
    (World.news_of_block (cs := #[v]) (t := 58) (fr := (0, 0)) hm) (by simpa using hv) (by omega) (by simp only [maxLen]; omega) (by omega) hbase _ rfl ?_
  intro g' cap' w' h2 h3 _ _
  exact h g' cap' w' h2 h3
section
variable {B : Nat} {w w' w'' : World} {q b p : Nat} {C : Int} {S : List Row} {f : Row}
theorem RowS.less {B' : Nat} {v : Value} (h : RowS B' w v f) (hB : B ≤ B') : RowS B w v f := by
  obtain ⟨r, c, vs, e, h2, hb, hv⟩ := h
  exact ⟨r, c, vs, e, Nat.le_trans hB h2, hb, hv⟩
theorem RowS.set {r c k : Nat} (h : RowS B w (.slice (some ⟨r, 0, none⟩) 8 c) f) (_hk : k < 8) (v : Int) : RowS B (w.setCell ⟨r, k, none⟩ (.int .i64 v)) (.slice (some ⟨r, 0, none⟩) 8 c) (up f k v) := by
  obtain ⟨r', c', vs, e, h2, hb, hv⟩ := h
  simp only [Value.slice.injEq, Option.some.injEq, Addr.mk.injEq, and_true, true_and] at e
  obtain ⟨rfl, rfl⟩ := e
  refine ⟨r, c, _, rfl, h2, hb.set (i := k) (.int .i64 v), fun j hj => ?_⟩
  rw [List.getElem?_set]
  by_cases e : k = j
  · subst e
    have hl : k < vs.length := by
      rcases Nat.lt_or_ge k vs.length with h | h
      · exact h
      · have := hv k hj; rw [List.getElem?_eq_none h] at this; cases this
    rw [if_pos rfl, if_pos hl, up_same]
  · rw [if_neg e, up_other f v (fun h => e h.symm)]; exact hv j hj
theorem RowS.frozen {r c : Nat} (h : RowS B w (.slice (some ⟨r, 0, none⟩) 8 c) f) (k : Nat) : w.frozen? ⟨r, k, none⟩ = false := by
  obtain ⟨r', c', vs, e, _, hb, hv⟩ := h
  simp only [Value.slice.injEq, Option.some.injEq, Addr.mk.injEq, and_true, true_and] at e
  obtain ⟨rfl, rfl⟩ := e
  exact hb.frozen k
theorem Ft.grown {g : Nat} {vs : List Value} (h : w.grownBy w' (some g)) (hg : Blk w g vs 58) (h1 : B ≤ g) (h2 : B ≤ w.heap.size) : Ft B w w' := by
  refine ⟨(Below.refl B w).grown h h2 (fun k hk => by cases hk; exact h1), fun k us t hb _ hne => hb.of (h.block k hb.lt (fun e => ?_)), fun k es c hm => (h.block k (Array.getElem?_eq_some_iff.1 hm).1 (fun e => ?_)).trans hm⟩
  · cases e; exact (hb.ne hg hne) rfl
  · cases e; unfold Blk at hg; rw [hg] at hm; cases hm
theorem Ft.set {i : Nat} {vs : List Value} (v : Value) (hp : Blk w p vs 105) (h1 : B ≤ p) : Ft B w (w.setCell ⟨p, i, none⟩ v) := by
  refine ⟨(Below.refl B w).setCell h1 v, fun k us t hb hne _ => hb.of (Below.heap_setCell _ _ _ _ (hb.ne hp hne)), fun k es c hm => ?_⟩
  rw [Below.heap_setCell _ _ _ _ (fun e => ?_)]
  · exact hm
  · have e' : k = p := e
    subst e'; unfold Blk at hp; rw [hp] at hm; cases hm
/-- The lists have grown by one: so has the book. -/
theorem pushed {W w6 : World} {h cap g' cap' : Nat} {us : List Value} {v : Value} {g : Row} (hB : B ≤ W.heap.size)
    (h1 : Blk W p [.int .i64 C, .slice (some ⟨h, 0, none⟩) S.length cap] 105) (h2 : B ≤ p) (h3 : W.ownsRow B 58 1 (.slice (some ⟨h, 0, none⟩) S.length cap) S.length us)
    (h4 : ∀ i, i < S.length → ∃ v, us[i]? = some v ∧ RowS B W v (ato S i)) (hv : RowS B W v g)
    (ho : w6.ownsRow B 58 1 (.slice (some ⟨g', 0, none⟩) (S.length + 1) cap') (S.length + 1) (us ++ [v])) (hg : W.grownBy w6 (some h)) :
    Blk w6 p [.int .i64 C, .slice (some ⟨h, 0, none⟩) S.length cap] 105 ∧ Rf B (w6.setCell ⟨p, 1, none⟩ (.slice (some ⟨g', 0, none⟩) (S.length + 1) cap')) p C (g :: S) ∧ Ft B W (w6.setCell ⟨p, 1, none⟩ (.slice (some ⟨g', 0, none⟩) (S.length + 1) cap')) := by
  obtain ⟨vs, hh⟩ := own_lt h3
  have f1 : Ft B W w6 := Ft.grown hg hh (own_base' h3) hB
  have hp6 : Blk w6 p [.int .i64 C, .slice (some ⟨h, 0, none⟩) S.length cap] 105 := h1.of (hg.block _ h1.lt (fun e => (h1.ne hh (by decide)) (by simpa using e)))
  have f2 : Ft B w6 (w6.setCell ⟨p, 1, none⟩ (.slice (some ⟨g', 0, none⟩) (S.length + 1) cap')) := Ft.set _ hp6 h2
  obtain ⟨vs', hg'⟩ := own_lt ho
  have hul : us.length = S.length := by have := h3.1; omega
  refine ⟨hp6, ⟨g', cap', us ++ [v], hp6.set (i := 1) _, h2, ?_, fun i hi => ?_⟩, f1.trans f2⟩
  · exact ho.kept (grown_set w6 p 1 _) (.inr (by simp only [Value.ownBlock]; exact fun e => (hg'.ne hp6 (by decide)) (by simpa using e)))
  · have keep : ∀ (u : Value) (x : Row), RowS B W u x → RowS B (w6.setCell ⟨p, 1, none⟩ (.slice (some ⟨g', 0, none⟩) (S.length + 1) cap')) u x := fun u x hx => hx.of fun k us hk => (f1.trans f2).keep k us 3 hk (by decide) (by decide)
    by_cases e : i < S.length
    · obtain ⟨u, hu, hr⟩ := h4 i e
      exact ⟨u, by rw [List.getElem?_append_left (by omega)]; exact hu, by rw [ato_old g e]; exact keep u _ hr⟩
    · have hi' : i = S.length := by simp at hi; omega
      subst hi'
      exact ⟨v, by rw [List.getElem?_append_right (by omega), hul, Nat.sub_self]; rfl, by rw [ato_new]; exact keep v _ hv⟩
end
end Go.Proofs.YtjnknnakllbaaaaGreat.Le
