/-
  Lists of numbers in memory: laws that the claimed proofs use.
-/
import Derived.Test.YtaelfgdiboekpaaDoorNsMem
import Derived.Maps.OwnIn
import Derived.Maps.AppendAt
import Derived.Deep.AppendLies
namespace Go.Proofs.YtaelfgdiboekpaaDoor.Ns
set_option maxRecDepth 100000
open Go.RowKit Go.Maps
open Bi (Blk)

/-- What is to be known of a slice's element. -/
structure El (t e : TypeId) (sz byt : Nat) : Prop where
  u : Tryd.prog.underlying t = some (.slice e)
  info : ∃ i z, Tryd.prog.info? e = some i ∧ i.zero = some z ∧ i.size = sz ∧ i.bytes = byt ∧ z.cells.size = sz
  pos : 0 < sz
  le : byt ≤ 64
theorem info_parts {t : TypeId} {z : Value} {s b : Nat} (h : (Tryd.prog.info? t).map (fun i => (i.zero, i.size, i.bytes)) = some (some z, s, b)) : ∃ i, Tryd.prog.info? t = some i ∧ i.zero = some z ∧ i.size = s ∧ i.bytes = b := by
  obtain ⟨i, hi, hp⟩ := Option.map_eq_some_iff.1 h
  simp only [Prod.mk.injEq] at hp
  exact ⟨i, hi, hp.1, hp.2.1, hp.2.2⟩
theorem el_of {e : TypeId} {z : Value} {sz byt : Nat} (h : (Tryd.prog.info? e).map (fun i => (i.zero, i.size, i.bytes)) = some (some z, sz, byt)) (hz : z.cells.size = sz) : ∃ i z, Tryd.prog.info? e = some i ∧ i.zero = some z ∧ i.size = sz ∧ i.bytes = byt ∧ z.cells.size = sz := by
  obtain ⟨i, h1, h2, h3, h4⟩ := info_parts h
  exact ⟨i, z, h1, h2, h3, h4, hz⟩
theorem el3 : El 30 3 1 8 := ⟨Tryd.underlying30, el_of (z := .int .i64 0) (by kernel_rfl) rfl, by omega, by omega⟩
section
variable {t e : TypeId} {sz byt base k : Nat} {v : Value} {xs news : List Value} {W w w' : World}
theorem own_some (h : w.ownsRow base e sz v (k + 1) xs) : ∃ g cap, v = .slice (some ⟨g, 0, none⟩) (k + 1) cap := by
  rcases h.2 with ⟨_, h0⟩ | ⟨g, cap, _, e, _⟩
  · exact absurd h0 (by omega)
  · exact ⟨g, cap, e⟩
theorem own_form (h : w.ownsRow base e sz v k xs) : ∃ A c, v = .slice A k c := by
  rcases h.2 with ⟨e, rfl⟩ | ⟨g, cap, _, e, _⟩
  · exact ⟨_, _, e⟩
  · exact ⟨_, _, e⟩
theorem own_below (h : w.ownsRow base e sz v k xs) (hb : Below w.heap.size w w') : w'.ownsRow base e sz v k xs := h.kept (row := none) (Bi.grown_below hb) (by cases v.ownBlock <;> simp)
theorem own_down {base' : Nat} (h : w.ownsRow base e sz v k xs) (hb : base' ≤ base) : w.ownsRow base' e sz v k xs := by
  refine ⟨h.1, ?_⟩
  rcases h.2 with hn | ⟨g, cap, cur, e, h1, r⟩
  · exact .inl hn
  · exact .inr ⟨g, cap, cur, e, Nat.le_trans hb h1, r⟩
theorem own_cells (h : w.ownsRow base e sz v k xs) {j : Nat} (hj : v.ownBlock = some j) : ∃ cur, w.heap[j]? = some (.cells cur e (0, 0)) := by
  rcases h.2 with ⟨rfl, _⟩ | ⟨g, cap, cur, rfl, _, hg, _⟩
  · cases hj
  · cases hj; exact ⟨cur, hg⟩
theorem own_of (h : w.ownsRow base e sz v k xs) (he : ∀ j, v.ownBlock = some j → w'.heap[j]? = w.heap[j]?) : w'.ownsRow base e sz v k xs := by
  refine ⟨h.1, ?_⟩
  rcases h.2 with hn | ⟨g, cap, cur, rfl, h1, h2, r⟩
  · exact .inl hn
  · exact .inr ⟨g, cap, cur, rfl, h1, (he g rfl).trans h2, r⟩
/-- One more element, which was built just now. -/
theorem app_law (E : El t e sz byt) {ops : Array Oper} {rest : List Oper} {o : Oper} {a : Act} {Q : Exit → Act → World → Prop} (hgd : o.guard = none) (s x : Operand)
    (ho : o.op = .call { callee := .builtin .append, args := #[s, x], argTypes := #[t, t] }) {n : Nat} (hs : a.eval s = v) (hown : W.ownsRow base e sz v k xs)
    (hx : a.eval x = .slice (some ⟨n, 0, none⟩) 1 1) (hn : W.heap[n]? = some (.cells news.toArray e (0, 0))) (hl : news.length = sz) (h1 : ∀ u ∈ news, u.oneCell' = true) (hk : k ≤ 1048576) (hbase : base ≤ W.heap.size)
    (h : ∀ g' cap' w', Hid (w'.ownsRow base e sz (.slice (some ⟨g', 0, none⟩) (k + 1) cap') (k + 1) (xs ++ news)) → Hid (W.grownBy w' v.ownBlock) → Hid (v.ownBlock = some g' ∨ g' = W.heap.size) →
      wpList Tryd.prog ops Q rest (a.put o.dst (.slice (some ⟨g', 0, none⟩) (k + 1) cap')) w') : wpList Tryd.prog ops Q (o :: rest) a W := by
  obtain ⟨i, z, hi, hz, hs1, hb1, hzs⟩ := E.info
  have hby := E.le
  refine wpList_append_own_at W hgd s x t ho base e i z sz byt E.u hi hz hs1 hb1 hzs E.pos v k xs hs hown ⟨n, 0, none⟩ 1 1 news hx (by omega) (World.news_of_block (cs := news.toArray) hn) h1 (by simp only [maxLen]; omega)
    (by have := Nat.mul_le_mul (by omega : k + 1 ≤ 1048577) hby; omega) hbase ?_
  intro v' w' h2 h3 _ h5
  obtain ⟨g', cap', rfl⟩ := own_some h2
  refine h g' cap' w' h2 h3 ?_
  rcases h5 with h5 | h5
  · exact .inl h5.symm
  · exact .inr (by simpa [Value.ownBlock] using h5)
end
/-- A list that lies in memory: of its address something is said only where there is an element. -/
def At (B : Nat) (w : World) (A : Option Addr) (xs : List Value) : Prop := 0 < xs.length → ∃ b o, A = some ⟨b, o, none⟩ ∧ b < B ∧ ∀ j v, xs[j]? = some v → w.cell? ⟨b, o + j, none⟩ = some v
theorem At.below {B : Nat} {w w' : World} {A : Option Addr} {xs : List Value} (h : At B w A xs) (hb : Below B w w') : At B w' A xs := fun hp => by
  obtain ⟨b, o, e, hg, hc⟩ := h hp
  exact ⟨b, o, e, hg, fun i v hi => (hb.cell (p := ⟨b, o + i, none⟩) hg).trans (hc i v hi)⟩
theorem At.more {B B' : Nat} {w : World} {A : Option Addr} {xs : List Value} (h : At B w A xs) (hb : B ≤ B') : At B' w A xs := fun hp => by
  obtain ⟨b, o, e, hg, hc⟩ := h hp
  exact ⟨b, o, e, by omega, hc⟩
theorem At.up {w w' : World} {A : Option Addr} {xs : List Value} (h : At w.heap.size w A xs) (hb : Below w.heap.size w w') : At w'.heap.size w' A xs := (h.below hb).more hb.size
theorem own_at {w : World} {base k c : Nat} {e : TypeId} {sz : Nat} {A : Option Addr} {xs : List Value} (h : w.ownsRow base e sz (.slice A k c) k xs) : At w.heap.size w A xs := fun hp => by
  rcases h.2 with ⟨h', h0⟩ | ⟨g, cap, cur, h', hb, hg, r⟩
  · have := h.1; rw [h0] at this; omega
  · cases h'
    refine ⟨g, 0, rfl, (Array.getElem?_eq_some_iff.1 hg).1, fun j v hj => ?_⟩
    have hl := (List.getElem?_eq_some_iff.1 hj).1
    rw [Nat.zero_add, h.cellAt j (by rw [← h.1]; exact hl), hj]
/-- Numbers. -/
def ints (xs : List Int) : List Value := xs.map fun (x : Int) => Value.int .i64 x
theorem ints_len (xs : List Int) : (ints xs).length = xs.length := by simp [ints]
theorem ints_snoc (xs : List Int) (x : Int) : ints (xs ++ [x]) = ints xs ++ [.int .i64 x] := by simp [ints]
theorem ints_get (xs : List Int) {j : Nat} (h : j < xs.length) : (ints xs)[j]? = some (.int .i64 xs[j]) := by simp [ints, h]
theorem At.int {B : Nat} {w : World} {A : Option Addr} {xs : List Int} (h : At B w A (ints xs)) {t : Nat} (ht : t < xs.length) :
    ∃ b o, A = some ⟨b, o, none⟩ ∧ b < B ∧ w.cell? ⟨b, o + t, none⟩ = some (.int .i64 xs[t]) := by
  obtain ⟨b, o, e, hb, hc⟩ := h (by rw [ints_len]; omega)
  exact ⟨b, o, e, hb, hc t _ (ints_get xs ht)⟩
/-- A list of another kind stays. -/
theorem own_far {w w' : World} {v : Value} {xs : List Value} {base n : Nat} {e : TypeId} {sz : Nat} (h : w.ownsRow base e sz v n xs) {i j x y : Nat} (hf : Fr i j w w') (hi : kind w i = x) (hj : kind w j = y) (hx : e ≠ x) (hy : e ≠ y) : w'.ownsRow base e sz v n xs :=
  own_of h fun k hk => by
    obtain ⟨cur, hc⟩ := own_cells h hk
    exact hf.block k (Array.getElem?_eq_some_iff.1 hc).1 (kne (kind_of hc) hi hx) (kne (kind_of hc) hj hy)
/-- Slots as numbers. -/
def nats (xs : List Nat) : List Int := xs.map fun (x : Nat) => (x : Int)
theorem nats_len (xs : List Nat) : (nats xs).length = xs.length := by simp [nats]
theorem nats_snoc (xs : List Nat) (x : Nat) : ints (nats (xs ++ [x])) = ints (nats xs) ++ [.int .i64 (x : Int)] := by simp [ints, nats]
theorem int_at (w : World) (x : Int) : At (w.alloc (.cells #[.int .i64 x] 3)).heap.size (w.alloc (.cells #[.int .i64 x] 3)) (some ⟨w.heap.size, 0, none⟩) (ints [x]) := fun _ =>
  ⟨w.heap.size, 0, rfl, by rw [World.size_alloc]; omega, fun j v hj => by
    have hk : Blk (w.alloc (.cells #[.int .i64 x] 3)) w.heap.size (ints [x]) 3 := heap_alloc_new w _
    rw [Nat.zero_add]
    exact hk.cell.trans hj⟩
/-- A list of numbers in a block of numbers. -/
def Li (w : World) (A : Option Addr) (xs : List Int) : Prop := At w.heap.size w A (ints xs) ∧ ∀ b o, A = some ⟨b, o, none⟩ → b < w.heap.size ∧ kind w b = 3
theorem own_li {w : World} {base k c : Nat} {A : Option Addr} {xs : List Int} (h : w.ownsRow base 3 1 (.slice A k c) k (ints xs)) : Li w A xs := by
  refine ⟨own_at h, fun b o e => ?_⟩
  subst e
  rcases h.2 with ⟨e, _⟩ | ⟨g, cap, cur, e, _, hg, _⟩
  · cases e
  · cases e
    exact ⟨(Array.getElem?_eq_some_iff.1 hg).1, kind_of hg⟩
theorem Li.fr {w w' : World} {A : Option Addr} {xs : List Int} (h : Li w A xs) {i j x y : Nat} (hf : Fr i j w w') (hi : kind w i = x) (hj : kind w j = y) (hx : x ≠ 3) (hy : y ≠ 3) : Li w' A xs := by
  have key : ∀ b o, A = some ⟨b, o, none⟩ → w'.heap[b]? = w.heap[b]? := fun b o e => by
    obtain ⟨h1, h2⟩ := h.2 b o e
    exact hf.block b h1 (kne h2 hi (Ne.symm hx)) (kne h2 hj (Ne.symm hy))
  refine ⟨fun hp => ?_, fun b o e => ?_⟩
  · obtain ⟨b, o, e, hb, hc⟩ := h.1 hp
    exact ⟨b, o, e, Nat.lt_of_lt_of_le hb hf.size, fun k v hk => (Bi.cell_of_block (key b o e)).trans (hc k v hk)⟩
  · obtain ⟨h1, h2⟩ := h.2 b o e
    refine ⟨Nat.lt_of_lt_of_le h1 hf.size, ?_⟩
    unfold kind; rw [key b o e]; exact h2
theorem Li.below {w w' : World} {A : Option Addr} {xs : List Int} (h : Li w A xs) (hb : Below w.heap.size w w') : Li w' A xs := by
  refine ⟨h.1.up hb, fun b o e => ?_⟩
  obtain ⟨h1, h2⟩ := h.2 b o e
  exact ⟨Nat.lt_of_lt_of_le h1 hb.size, by rw [kind_below h1 hb]; exact h2⟩
theorem Li.int {w : World} {A : Option Addr} {xs : List Int} (h : Li w A xs) {t : Nat} (ht : t < xs.length) : ∃ b o, A = some ⟨b, o, none⟩ ∧ w.cell? ⟨b, o + t, none⟩ = some (.int .i64 xs[t]) := by
  obtain ⟨b, o, e, _, hc⟩ := h.1.int ht
  exact ⟨b, o, e, hc⟩
theorem li_new (w : World) (xs : List Int) : Li (w.alloc (.cells (ints xs).toArray 3)) (some ⟨w.heap.size, 0, none⟩) xs := by
  have hk : (w.alloc (.cells (ints xs).toArray 3)).heap[w.heap.size]? = some (.cells (ints xs).toArray 3 (0, 0)) := heap_alloc_new w _
  refine ⟨fun _ => ⟨w.heap.size, 0, rfl, by rw [World.size_alloc]; omega, fun j v hj => ?_⟩, fun b o e => ?_⟩
  · rw [Nat.zero_add, cell_of_row _ _ _ _ 3 (0, 0) hk]
    simpa using hj
  · cases e
    exact ⟨by rw [World.size_alloc]; omega, kind_of hk⟩
end Go.Proofs.YtaelfgdiboekpaaDoor.Ns
