import Derived.Test.YtckcgaliphpgeaaGreatDoorBiA
import Derived.Test.YtckcgaliphpgeaaGreatDoorTaA
import Derived.Maps.OwnIn
import Derived.Maps.AppendAt
import Derived.Deep.AppendLies
/-
  A slab as a plain list of bits, no program in sight: facts that the claimed proofs use.
-/
namespace Go.Proofs.YtckcgaliphpgeaaGreatDoor.Os
set_option maxRecDepth 100000
open Ta (sz szs classB classB_iff classB_not sizeOf' slotsOf)
open Bi (sets bt on first setL setB tst hasB)

/-- May a slab begin there? -/
def baseB (b : Int) : Bool := decide (0 ≤ b ∧ b ≤ 1047552 ∧ b % 1024 = 0)
theorem baseB_iff {b : Int} : baseB b = true ↔ 0 ≤ b ∧ b ≤ 1047552 ∧ b % 1024 = 0 := by simp [baseB]
theorem baseB_not {b : Int} : baseB b = false ↔ ¬ (0 ≤ b ∧ b ≤ 1047552 ∧ b % 1024 = 0) := by simp only [baseB, decide_eq_false_iff_not]
/-- How many slots a class has. -/
def nS (c : Int) : Nat := (slotsOf c).toNat
theorem cls_nat : ∀ k, k < 16 → 16 ≤ sz k ∧ sz k ≤ 512 ∧ 2 ≤ (1024 / sz k) ∧ (1024 / sz k) ≤ 64 ∧ (1024 / sz k) * sz k ≤ 1024 := by decide +kernel
theorem cls {c : Int} (h : classB c = true) : 16 ≤ sizeOf' c ∧ sizeOf' c ≤ 512 ∧ 2 ≤ nS c ∧ nS c ≤ 64 ∧ (nS c : Int) * sizeOf' c ≤ 1024 ∧ slotsOf c = nS c ∧ (nS c : Int) = 1024 / sizeOf' c := by
  obtain ⟨h0, h1⟩ := classB_iff.1 h
  obtain ⟨k, rfl⟩ := Int.eq_ofNat_of_zero_le h0
  have := cls_nat k (by omega)
  unfold nS
  rw [Ta.sizeOf_nat (by omega), Ta.slotsOf_nat (by omega)]
  generalize 1024 / sz k = m at this ⊢
  obtain ⟨M, rfl⟩ := Int.eq_ofNat_of_zero_le (show 0 ≤ m by omega)
  refine ⟨by omega, by omega, by omega, by omega, ?_, by omega, by omega⟩
  simpa using this.2.2.2.2
/-! ### Places -/
def slotI (n : Nat) (b z x : Int) : Int := if (x - b) % z = 0 ∧ 0 ≤ (x - b) / z ∧ (x - b) / z < n then (x - b) / z else -1
theorem slot_at {n k : Nat} {b z : Int} (hz : 0 < z) (hk : k < n) : slotI n b z (b + k * z) = k := by
  unfold slotI
  have e : b + k * z - b = k * z := by omega
  rw [e, Int.mul_ediv_cancel _ (by omega), Int.mul_emod_left, if_pos (by omega)]
theorem slot_is {n : Nat} {b z : Int} (x : Int) (hz : 0 < z) : (slotI n b z x = -1 ∧ ∀ k : Nat, k < n → b + k * z ≠ x) ∨ ∃ k : Nat, k < n ∧ slotI n b z x = k ∧ x = b + k * z := by
  by_cases h : (x - b) % z = 0 ∧ 0 ≤ (x - b) / z ∧ (x - b) / z < n
  · right
    obtain ⟨k, hk⟩ := Int.eq_ofNat_of_zero_le h.2.1
    have h3 := Int.mul_ediv_add_emod (x - b) z
    rw [h.1, hk, Int.mul_comm] at h3
    refine ⟨k, by omega, by unfold slotI; rw [if_pos h, hk], by omega⟩
  · left
    refine ⟨by unfold slotI; rw [if_neg h], fun k hk e => h ?_⟩
    have e1 : x - b = k * z := by omega
    rw [e1, Int.mul_emod_left, Int.mul_ediv_cancel _ (by omega)]
    omega
/-! ### What is taken and given -/
def tkI (l : List Bool) : Int := first l 0 false
def tkV (b z : Int) (l : List Bool) : Int := if tkI l < 0 then -1 else b + tkI l * z
def tkE (l : List Bool) : Int := if tkI l < 0 then 18 else 0
def tkL (l : List Bool) : List Bool := if tkI l < 0 then l else setL l (tkI l) true
def gvI (b z : Int) (l : List Bool) (x : Int) : Int := slotI l.length b z x
def gvE (b z : Int) (l : List Bool) (x : Int) : Int := if gvI b z l x < 0 then 12 else if tst l (gvI b z l x) = false then 19 else 0
def gvL (b z : Int) (l : List Bool) (x : Int) : List Bool := if gvE b z l x = 0 then setL l (gvI b z l x) false else l
theorem tkL_len (l : List Bool) : (tkL l).length = l.length := by unfold tkL; split <;> simp [Bi.setL_length]
theorem gvL_len (b z : Int) (l : List Bool) (x : Int) : (gvL b z l x).length = l.length := by unfold gvL; split <;> simp [Bi.setL_length]
/-- All of them, one after the other. -/
def gaE (b z : Int) : List Bool → List Int → Int
  | _, [] => 0
  | l, x :: r => if gvE b z l x = 0 then gaE b z (gvL b z l x) r else gvE b z l x
def gaS (b z : Int) : List Bool → List Int → List Bool
  | l, [] => l
  | l, x :: r => gaS b z (gvL b z l x) r
def gaL (b z : Int) (l : List Bool) (xs : List Int) : List Bool := if gaE b z l xs = 0 then gaS b z l xs else l
def smO (b z : Int) : List Bool → Nat → List Int
  | _, 0 => []
  | l, m + 1 => tkV b z l :: smO b z (tkL l) m
def smS : List Bool → Nat → List Bool
  | l, 0 => l
  | l, m + 1 => smS (tkL l) m
theorem smO_len (b z : Int) : ∀ (l : List Bool) (m : Nat), (smO b z l m).length = m
  | _, 0 => rfl
  | l, m + 1 => by rw [smO, List.length_cons, smO_len b z (tkL l) m]
theorem smS_len : ∀ (l : List Bool) (m : Nat), (smS l m).length = l.length
  | _, 0 => rfl
  | l, m + 1 => by rw [smS, smS_len, tkL_len]
theorem gaS_len (b z : Int) : ∀ (l : List Bool) (xs : List Int), (gaS b z l xs).length = l.length
  | _, [] => rfl
  | l, x :: r => by rw [gaS, gaS_len, gvL_len]
theorem gaL_len (b z : Int) (l : List Bool) (xs : List Int) : (gaL b z l xs).length = l.length := by unfold gaL; split <;> simp [gaS_len]
/-- Slots that are taken from the outset. -/
def wiB : List Bool → List Int → Bool
  | _, [] => true
  | l, x :: r => setB l x true && wiB (setL l x true) r
def wiS : List Bool → List Int → List Bool
  | l, [] => l
  | l, x :: r => wiS (setL l x true) r
theorem wiS_len : ∀ (l : List Bool) (xs : List Int), (wiS l xs).length = l.length
  | _, [] => rfl
  | l, x :: r => by rw [wiS, wiS_len, Bi.setL_length]
/-! ### How many are free -/
def fr (l : List Bool) : Nat := l.length - (sets l).length
theorem sets_count (l : List Bool) : (sets l).length = l.count true := by
  have h : ∀ k, k ≤ l.length → (on (bt l) k).length = (l.take k).count true := by
    intro k
    induction k with
    | zero => intro _; rfl
    | succ k ih =>
      intro hk
      rw [Bi.on_succ, List.length_append, ih (by omega), List.take_succ_eq_append_getElem (by omega), List.count_append]
      congr 1
      have : bt l k = l[k] := by unfold bt; rw [List.getD_eq_getElem?_getD, List.getElem?_eq_getElem (by omega)]; rfl
      rw [this]
      cases l[k] <;> rfl
  have := h l.length (Nat.le_refl _)
  rwa [List.take_length] at this
theorem count_set {l : List Bool} {k : Nat} (hk : k < l.length) (b : Bool) : (l.set k b).count true + (if bt l k = true then 1 else 0) = l.count true + (if b = true then 1 else 0) := by
  have e : bt l k = l[k] := by unfold bt; rw [List.getD_eq_getElem?_getD, List.getElem?_eq_getElem hk]; rfl
  rw [e, List.count_set hk]
  have h1 : 0 < l.count true ∨ l[k] = false := by
    cases h : l[k]
    · exact .inr rfl
    · left; exact List.count_pos_iff.2 (h ▸ List.getElem_mem hk)
  generalize l.count true = M at h1 ⊢
  cases hb : l[k] <;> cases b <;> simp [hb] at h1 ⊢ <;> omega
theorem sets_set {l : List Bool} {k : Nat} (hk : k < l.length) (b : Bool) : (sets (l.set k b)).length + (if bt l k = true then 1 else 0) = (sets l).length + (if b = true then 1 else 0) := by
  rw [sets_count, sets_count]; exact count_set hk b
theorem tk_is (l : List Bool) : (tkI l = -1 ∧ ∀ k, k < l.length → bt l k = true) ∨ ∃ k : Nat, tkI l = k ∧ k < l.length ∧ bt l k = false ∧ ∀ j, j < k → bt l j = true := by
  rcases Bi.isFirst_first l 0 false with ⟨h, h2⟩ | ⟨k, h, _, h3, h4, h5⟩
  · exact .inl ⟨h, fun k hk => by have := h2 k (by omega) hk; simpa using this⟩
  · exact .inr ⟨k, h, h3, h4, fun j hj => by have := h5 j (by omega) hj; simpa using this⟩
theorem setL_nat {l : List Bool} {k : Nat} (hk : k < l.length) (b : Bool) : setL l (k : Int) b = l.set k b := by
  unfold setL; rw [if_pos (Bi.hasB_iff.2 (by omega)), Int.toNat_natCast]
theorem tk_no {l : List Bool} (h : tkI l < 0) : tkL l = l ∧ tkE l = 18 ∧ (∀ b z, tkV b z l = -1) ∧ fr l = 0 := by
  refine ⟨by unfold tkL; rw [if_pos h], by unfold tkE; rw [if_pos h], fun b z => by unfold tkV; rw [if_pos h], ?_⟩
  rcases tk_is l with ⟨_, h2⟩ | ⟨k, h2, _⟩
  · unfold fr
    have : sets l = List.range l.length := by
      unfold sets Bi.on
      exact List.filter_eq_self.2 (fun a ha => h2 a (List.mem_range.1 ha))
    rw [this, List.length_range]; omega
  · omega
theorem tk_yes {l : List Bool} (h : ¬ tkI l < 0) : ∃ k : Nat, tkI l = k ∧ k < l.length ∧ bt l k = false ∧ (∀ j, j < k → bt l j = true) ∧ tkL l = l.set k true ∧ tkE l = 0 ∧ (∀ b z, tkV b z l = b + k * z) ∧ fr l = fr (tkL l) + 1 := by
  rcases tk_is l with ⟨h2, _⟩ | ⟨k, h1, h2, h3, h4⟩
  · omega
  · have e : tkL l = l.set k true := by unfold tkL; rw [if_neg h, h1, setL_nat h2]
    refine ⟨k, h1, h2, h3, h4, e, by unfold tkE; rw [if_neg h], fun b z => by unfold tkV; rw [if_neg h, h1], ?_⟩
    have := sets_set h2 true
    rw [h3] at this
    have h5 := Bi.sets_length_le (l.set k true)
    rw [List.length_set] at h5
    unfold fr
    rw [e, List.length_set]
    simp at this
    omega
theorem fr_zero {l : List Bool} : fr l = 0 ↔ tkI l < 0 := by
  constructor
  · intro h
    apply Classical.byContradiction
    intro h2
    obtain ⟨_, _, _, _, _, _, _, _, h3⟩ := tk_yes h2
    omega
  · intro h; exact (tk_no h).2.2.2
theorem fr_le (l : List Bool) : fr l ≤ l.length := Nat.sub_le _ _
end Go.Proofs.YtckcgaliphpgeaaGreatDoor.Os

/-
  Lists of numbers in memory: laws that the claimed proofs use.
-/
namespace Go.Proofs.YtckcgaliphpgeaaGreatDoor.Os
set_option maxRecDepth 100000
open Go.RowKit Go.Maps

/-- What is to be known of a slice's element. -/
structure El (t e : TypeId) (sz byt : Nat) : Prop where
  u : Tryz.prog.underlying t = some (.slice e)
  info : ∃ i z, Tryz.prog.info? e = some i ∧ i.zero = some z ∧ i.size = sz ∧ i.bytes = byt ∧ z.cells.size = sz
  pos : 0 < sz
  le : byt ≤ 64
theorem el_of {e : TypeId} {z : Value} {sz byt : Nat} (h : (Tryz.prog.info? e).map (fun i => (i.zero, i.size, i.bytes)) = some (some z, sz, byt)) (hz : z.cells.size = sz) : ∃ i z, Tryz.prog.info? e = some i ∧ i.zero = some z ∧ i.size = sz ∧ i.bytes = byt ∧ z.cells.size = sz := by
  obtain ⟨i, h1, h2, h3, h4⟩ := Bi.info_parts h
  exact ⟨i, z, h1, h2, h3, h4, hz⟩
theorem el3 : El 29 3 1 8 := ⟨Tryz.underlying29, el_of (z := .int .i64 0) (by kernel_rfl) rfl, by omega, by omega⟩
section
variable {t e : TypeId} {sz byt base k : Nat} {v : Value} {xs news : List Value} {W w w' : World}
theorem own_some (h : w.ownsRow base e sz v (k + 1) xs) : ∃ g cap, v = .slice (some ⟨g, 0, none⟩) (k + 1) cap := by
  rcases h.2 with ⟨_, h0⟩ | ⟨g, cap, _, e, _⟩
  · exact absurd h0 (by omega)
  · exact ⟨g, cap, e⟩
theorem own_form (h : w.ownsRow base e sz v k xs) : ∃ A c, v = .slice A k c := by
  rcases h.2 with ⟨e, rfl⟩ | ⟨g, cap, _, e, _⟩
  · exact ⟨_, _, e⟩
  · exact ⟨_, _, e⟩
theorem own_below (h : w.ownsRow base e sz v k xs) (hb : Below w.heap.size w w') : w'.ownsRow base e sz v k xs := h.kept (row := none) (Bi.grown_below hb) (by cases v.ownBlock <;> simp)
theorem own_down {base' : Nat} (h : w.ownsRow base e sz v k xs) (hb : base' ≤ base) : w.ownsRow base' e sz v k xs := by
  refine ⟨h.1, ?_⟩
  rcases h.2 with hn | ⟨g, cap, cur, e, h1, r⟩
  · exact .inl hn
  · exact .inr ⟨g, cap, cur, e, Nat.le_trans hb h1, r⟩
theorem own_cells (h : w.ownsRow base e sz v k xs) {j : Nat} (hj : v.ownBlock = some j) : ∃ cur, w.heap[j]? = some (.cells cur e (0, 0)) := by
  rcases h.2 with ⟨rfl, _⟩ | ⟨g, cap, cur, rfl, _, hg, _⟩
  · cases hj
  · cases hj; exact ⟨cur, hg⟩
theorem own_of (h : w.ownsRow base e sz v k xs) (he : ∀ j, v.ownBlock = some j → w'.heap[j]? = w.heap[j]?) : w'.ownsRow base e sz v k xs := by
  refine ⟨h.1, ?_⟩
  rcases h.2 with hn | ⟨g, cap, cur, rfl, h1, h2, r⟩
  · exact .inl hn
  · exact .inr ⟨g, cap, cur, rfl, h1, (he g rfl).trans h2, r⟩
/-- One more element, which was built just now. -/
theorem app_law (E : El t e sz byt) {ops : Array Oper} {rest : List Oper} {o : Oper} {a : Act} {Q : Exit → Act → World → Prop} (hgd : o.guard = none) (s x : Operand)
    (ho : o.op = .call { callee := .builtin .append, args := #[s, x], argTypes := #[t, t] }) {n : Nat} (hs : a.eval s = v) (hown : W.ownsRow base e sz v k xs)
    (hx : a.eval x = .slice (some ⟨n, 0, none⟩) 1 1) (hn : W.heap[n]? = some (.cells news.toArray e (0, 0))) (hl : news.length = sz) (h1 : ∀ u ∈ news, u.oneCell' = true) (hk : k ≤ 1048576) (hbase : base ≤ W.heap.size)
    (h : ∀ g' cap' w', Hid (w'.ownsRow base e sz (.slice (some ⟨g', 0, none⟩) (k + 1) cap') (k + 1) (xs ++ news)) → Hid (W.grownBy w' v.ownBlock) → Hid (v.ownBlock = some g' ∨ g' = W.heap.size) →
      wpList Tryz.prog ops Q rest (a.put o.dst (.slice (some ⟨g', 0, none⟩) (k + 1) cap')) w') : wpList Tryz.prog ops Q (o :: rest) a W := by
  obtain ⟨i, z, hi, hz, hs1, hb1, hzs⟩ := E.info
  have hby := E.le
  refine wpList_append_own_at W hgd s x t ho base e i z sz byt E.u hi hz hs1 hb1 hzs E.pos v k xs hs hown ⟨n, 0, none⟩ 1 1 news hx (by omega) (World.news_of_block (cs := news.toArray) hn) h1 (by simp only [maxLen]; omega)
    (by have := Nat.mul_le_mul (by omega : k + 1 ≤ 1048577) hby; omega) hbase ?_
  intro v' w' h2 h3 _ h5
  obtain ⟨g', cap', rfl⟩ := own_some h2
  refine h g' cap' w' h2 h3 ?_
  rcases h5 with h5 | h5
  · exact .inl h5.symm
  · exact .inr (by simpa [Value.ownBlock] using h5)
end
/-- A list that lies in memory: of its address something is said only where there is an element. -/
def At (B : Nat) (w : World) (A : Option Addr) (xs : List Value) : Prop := 0 < xs.length → ∃ b o, A = some ⟨b, o, none⟩ ∧ b < B ∧ ∀ j v, xs[j]? = some v → w.cell? ⟨b, o + j, none⟩ = some v
theorem At.below {B : Nat} {w w' : World} {A : Option Addr} {xs : List Value} (h : At B w A xs) (hb : Below B w w') : At B w' A xs := fun hp => by
  obtain ⟨b, o, e, hg, hc⟩ := h hp
  exact ⟨b, o, e, hg, fun i v hi => (hb.cell (p := ⟨b, o + i, none⟩) hg).trans (hc i v hi)⟩
theorem At.more {B B' : Nat} {w : World} {A : Option Addr} {xs : List Value} (h : At B w A xs) (hb : B ≤ B') : At B' w A xs := fun hp => by
  obtain ⟨b, o, e, hg, hc⟩ := h hp
  exact ⟨b, o, e, by omega, hc⟩
theorem At.up {w w' : World} {A : Option Addr} {xs : List Value} (h : At w.heap.size w A xs) (hb : Below w.heap.size w w') : At w'.heap.size w' A xs := (h.below hb).more hb.size
theorem own_at {w : World} {base k c : Nat} {e : TypeId} {sz : Nat} {A : Option Addr} {xs : List Value} (h : w.ownsRow base e sz (.slice A k c) k xs) : At w.heap.size w A xs := fun hp => by
  rcases h.2 with ⟨h', h0⟩ | ⟨g, cap, cur, h', hb, hg, r⟩
  · have := h.1; rw [h0] at this; omega
  · cases h'
    refine ⟨g, 0, rfl, (Array.getElem?_eq_some_iff.1 hg).1, fun j v hj => ?_⟩
    have hl := (List.getElem?_eq_some_iff.1 hj).1
    rw [Nat.zero_add, h.cellAt j (by rw [← h.1]; exact hl), hj]
/-- Numbers. -/
def ints (xs : List Int) : List Value := xs.map fun (x : Int) => Value.int .i64 x
theorem ints_len (xs : List Int) : (ints xs).length = xs.length := by simp [ints]
theorem ints_snoc (xs : List Int) (x : Int) : ints (xs ++ [x]) = ints xs ++ [.int .i64 x] := by simp [ints]
theorem ints_get (xs : List Int) {j : Nat} (h : j < xs.length) : (ints xs)[j]? = some (.int .i64 xs[j]) := by simp [ints, h]
theorem At.int {B : Nat} {w : World} {A : Option Addr} {xs : List Int} (h : At B w A (ints xs)) {t : Nat} (ht : t < xs.length) :
    ∃ b o, A = some ⟨b, o, none⟩ ∧ b < B ∧ w.cell? ⟨b, o + t, none⟩ = some (.int .i64 xs[t]) := by
  obtain ⟨b, o, e, hb, hc⟩ := h (by rw [ints_len]; omega)
  exact ⟨b, o, e, hb, hc t _ (ints_get xs ht)⟩
end Go.Proofs.YtckcgaliphpgeaaGreatDoor.Os

/-
  What a slab is in memory, and what it is asked: laws and contracts that the claimed proofs use.
-/
namespace Go.Proofs.YtckcgaliphpgeaaGreatDoor.Os
set_option maxRecDepth 100000
open Go.RowKit
open Ta (sz szs classB classB_iff classB_not sizeOf' slotsOf)
open Bi (sets bt on first setL setB tst hasB u Blk Drawn grown_refl grown_trans grown_below up_alloc up_drew up_trans i64_in ret_i ret_b)

theorem ret_ib {a b : Int} {c d : Bool} (h : a = b) (h2 : c = d) : Ending.returned (.tuple #[.int .i64 a, .bool c]) = .returned (.tuple #[.int .i64 b, .bool d]) := by rw [h, h2]
theorem ret_ii {a b c d : Int} (h : a = b) (h2 : c = d) : Ending.returned (.tuple #[.int .i64 a, .int .i64 c]) = .returned (.tuple #[.int .i64 b, .int .i64 d]) := by rw [h, h2]
/-! ### The tables -/
structure Tb (w : World) : Prop where
  bits : Bi.Tab w
  cls : Ta.Tab w
theorem Tb.lt {w : World} (h : Tb w) : 1 < w.heap.size := h.bits.lt
theorem Tb.below {w w' : World} (h : Tb w) (hb : Below w.heap.size w w') : Tb w' := ⟨h.bits.below hb, h.cls.below hb⟩
theorem Tb.drop {B : Nat} {w w' : World} (h : Tb w) (hb : Below B w w') (hB : 1 < B) : Tb w' := ⟨h.bits.drop hb hB, by
  obtain ⟨t, fr, e⟩ := h.cls
  exact ⟨t, fr, (hb.block 0 (by omega)).trans e⟩⟩
/-! ### Kinds of blocks -/
/-- Of what kind a block is; 0: it is no row of cells. -/
def kind (w : World) (k : Nat) : Nat := match w.heap[k]? with
  | some (.cells _ t _) => t
  | _ => 0
theorem kind_of {w : World} {k t : Nat} {a : Array Value} {fr : Nat × Nat} (h : w.heap[k]? = some (.cells a t fr)) : kind w k = t := by unfold kind; rw [h]
theorem kind_blk {w : World} {g : Nat} {vs : List Value} {t : TypeId} (h : Blk w g vs t) : kind w g = t := kind_of h
theorem kne {w : World} {a b x y : Nat} (h1 : kind w a = x) (h2 : kind w b = y) (h : x ≠ y) : a ≠ b := fun e => h (by rw [← h1, ← h2, e])
/-! ### Frames -/
/-- Two blocks alone may have changed. -/
structure Fr (s g : Nat) (w w' : World) : Prop where
  os : w'.os = w.os
  tape : w'.tape = w.tape
  output : w'.output = w.output
  size : w.heap.size ≤ w'.heap.size
  block : ∀ k, k < w.heap.size → k ≠ s → k ≠ g → w'.heap[k]? = w.heap[k]?
theorem Fr.refl (s g : Nat) (w : World) : Fr s g w w := ⟨rfl, rfl, rfl, Nat.le_refl _, fun _ _ _ _ => rfl⟩
theorem Fr.of {s g : Nat} {a b : World} (h : Below a.heap.size a b) : Fr s g a b := ⟨h.os, h.tape, h.output, h.size, fun k hk _ _ => h.block k hk⟩
theorem Fr.grown {s g : Nat} {a b : World} (h : a.grownBy b (some g)) : Fr s g a b := ⟨h.os, h.tape, h.output, h.size, fun k hk _ h2 => h.block k hk (by simpa using h2)⟩
theorem Fr.grown1 {s g : Nat} {a b : World} (h : a.grownBy b (some s)) : Fr s g a b := ⟨h.os, h.tape, h.output, h.size, fun k hk h2 _ => h.block k hk (by simpa using h2)⟩
theorem Fr.trans {s g g' : Nat} {a b c : World} (h : Fr s g a b) (k : Fr s g' b c) (hg : g' = g ∨ a.heap.size ≤ g') : Fr s g a c :=
  ⟨k.os.trans h.os, k.tape.trans h.tape, k.output.trans h.output, Nat.le_trans h.size k.size, fun i hi h1 h2 => (k.block i (Nat.lt_of_lt_of_le hi h.size) h1 (fun e => hg.elim (fun e2 => h2 (e.trans e2)) (fun e2 => absurd hi (by omega)))).trans (h.block i hi h1 h2)⟩
theorem Fr.below {s g B : Nat} {a b : World} (h : Fr s g a b) (h1 : B ≤ s) (h2 : B ≤ g) (hB : B ≤ a.heap.size) : Below B a b := ⟨h.os, h.tape, h.output, h.size, fun k hk => h.block k (by omega) (by omega) (by omega)⟩
/-! ### A slab -/
structure Sl (w : World) (s q g : Nat) (b c : Int) (l : List Bool) : Prop where
  blk : Blk w s [.int .i64 b, .int .i64 c, .pointer (some ⟨q, 0, none⟩)] 96
  bits : ∃ ws, Bi.Bits w q g l ws
  hb : baseB b = true
  hc : classB c = true
  len : l.length = nS c
  pos : 1 < s
section
variable {w w' : World} {s q g : Nat} {b c : Int} {l : List Bool}
theorem Sl.kinds (h : Sl w s q g b c l) : kind w s = 96 ∧ kind w q = 149 ∧ kind w g = 144 := by
  obtain ⟨ws, hm⟩ := h.bits
  exact ⟨kind_blk h.blk, kind_blk hm.1, kind_blk hm.2.1⟩
theorem Sl.lt (h : Sl w s q g b c l) : s < w.heap.size ∧ q < w.heap.size ∧ g < w.heap.size := by
  obtain ⟨ws, hm⟩ := h.bits
  exact ⟨h.blk.lt, hm.1.lt, hm.2.1.lt⟩
theorem Sl.of (h : Sl w s q g b c l) (h1 : w'.heap[s]? = w.heap[s]?) (h2 : w'.heap[q]? = w.heap[q]?) (h3 : w'.heap[g]? = w.heap[g]?) : Sl w' s q g b c l := by
  obtain ⟨ws, hm⟩ := h.bits
  exact ⟨h.blk.of h1, ⟨ws, hm.1.of h2, hm.2.1.of h3, hm.2.2⟩, h.hb, h.hc, h.len, h.pos⟩
theorem Sl.below (h : Sl w s q g b c l) (hb : Below w.heap.size w w') : Sl w' s q g b c l := h.of (hb.block _ h.lt.1) (hb.block _ h.lt.2.1) (hb.block _ h.lt.2.2)
/-- Blocks of other kinds have changed. -/
theorem Sl.far (h : Sl w s q g b c l) {i j x y : Nat} (hf : Fr i j w w') (hi : kind w i = x) (hj : kind w j = y) (hx : x ≠ 96 ∧ x ≠ 149 ∧ x ≠ 144) (hy : y ≠ 96 ∧ y ≠ 149 ∧ y ≠ 144) : Sl w' s q g b c l := by
  obtain ⟨k1, k2, k3⟩ := h.kinds
  obtain ⟨l1, l2, l3⟩ := h.lt
  exact h.of (hf.block _ l1 (kne k1 hi (Ne.symm hx.1)) (kne k1 hj (Ne.symm hy.1))) (hf.block _ l2 (kne k2 hi (Ne.symm hx.2.1)) (kne k2 hj (Ne.symm hy.2.1))) (hf.block _ l3 (kne k3 hi (Ne.symm hx.2.2)) (kne k3 hj (Ne.symm hy.2.2)))
theorem Sl.c0 (h : Sl w s q g b c l) : w.cell? ⟨s, 0, none⟩ = some (.int .i64 b) := h.blk.cell
theorem Sl.c1 (h : Sl w s q g b c l) : w.cell? ⟨s, 1, none⟩ = some (.int .i64 c) := h.blk.cell
theorem Sl.c2 (h : Sl w s q g b c l) : w.cell? ⟨s, 2, none⟩ = some (.pointer (some ⟨q, 0, none⟩)) := h.blk.cell
theorem Sl.n (h : Sl w s q g b c l) : w.cell? ⟨q, 0, none⟩ = some (.int .i64 (l.length : Int)) := by obtain ⟨ws, hm⟩ := h.bits; exact hm.n
theorem Sl.len_le (h : Sl w s q g b c l) : 2 ≤ l.length ∧ l.length ≤ 64 := by have := cls h.hc; have := h.len; omega

/-! ### What is asked -/
theorem isBase_any (b : Int) (w : World) : Calls Tryz.prog 178 #[.int .i64 b] w fun e w' => e = .returned (.bool (baseB b)) ∧ w = w' := by
  by_cases h0 : 0 ≤ b
  · have d0 : decide (0 ≤ b) = true := by simpa using h0
    have e1 : b.tmod 1024 = b % 1024 := by rw [Int.tmod_eq_emod_of_nonneg h0]
    by_cases h1 : b ≤ 1047552
    · have d1 : decide (b ≤ 1047552) = true := by simpa using h1
      have H : Hid (baseB b = (b % 1024 == 0)) := by show _ = _; rw [Bool.eq_iff_iff, baseB_iff]; simp; omega
      obtain ⟨z, hz⟩ : ∃ z, (b % 1024 == 0) = z := ⟨_, rfl⟩
      rw [hz] at H
      go_enter Tryz.func178, Tryz.ntmps178
      go_wp2
      go_ret
      exact ⟨ret_b (by rw [H.out, ← hz]), rfl⟩
    · have d1 : decide (b ≤ 1047552) = false := by simpa using h1
      have H : Hid (baseB b = false) := by show _ = _; rw [baseB_not]; omega
      go_enter Tryz.func178, Tryz.ntmps178
      go_wp2
      go_ret
      exact ⟨ret_b H.out.symm, rfl⟩
  · have d0 : decide (0 ≤ b) = false := by simpa using h0
    have H : Hid (baseB b = false) := by show _ = _; rw [baseB_not]; omega
    go_enter Tryz.func178, Tryz.ntmps178
    go_wp2
    go_ret
    exact ⟨ret_b H.out.symm, rfl⟩
theorem base_any (h : Sl w s q g b c l) : Calls Tryz.prog 15 #[.pointer (some ⟨s, 0, none⟩)] w fun e w' => e = .returned (.int .i64 b) ∧ w = w' := by
  have c0 := h.c0
  clear h
  go_enter Tryz.func15, Tryz.ntmps15
  go_wp2
  go_ret
  exact ⟨rfl, rfl⟩
theorem class_any (h : Sl w s q g b c l) : Calls Tryz.prog 14 #[.pointer (some ⟨s, 0, none⟩)] w fun e w' => e = .returned (.int .i64 c) ∧ w = w' := by
  have c1 := h.c1
  clear h
  go_enter Tryz.func14, Tryz.ntmps14
  go_wp2
  go_ret
  exact ⟨rfl, rfl⟩
theorem size_any (h : Sl w s q g b c l) (hT : Tb w) : Calls Tryz.prog 22 #[.pointer (some ⟨s, 0, none⟩)] w fun e w' => e = .returned (.int .i64 (sizeOf' c)) ∧ w = w' := by
  have c1 := h.c1
  have H := Lib.hid (Ta.size_any c w hT.cls)
  clear h hT
  go_enter Tryz.func22, Tryz.ntmps22
  go_wp2_with (go_at_call 53; refine H.out.mono ?_; rintro e w' ⟨rfl, rfl⟩)
  go_ret
  exact ⟨rfl, rfl⟩
theorem slots_any (h : Sl w s q g b c l) : Calls Tryz.prog 46 #[.pointer (some ⟨s, 0, none⟩)] w fun e w' => e = .returned (.int .i64 (l.length : Int)) ∧ w = w' := by
  have c2 := h.c2
  have H := Lib.hid (Bi.len_any q l.length w h.n)
  clear h
  go_enter Tryz.func46, Tryz.ntmps46
  go_wp2_with (go_at_call 94; refine H.out.mono ?_; rintro e w' ⟨rfl, rfl⟩)
  go_ret
  exact ⟨rfl, rfl⟩
theorem has_any (k : Int) (h : Sl w s q g b c l) : Calls Tryz.prog 99 #[.pointer (some ⟨s, 0, none⟩), .int .i64 k] w fun e w' => e = .returned (.bool (hasB l.length k)) ∧ w = w' := by
  have H := Lib.hid (slots_any h)
  clear h
  by_cases h0 : 0 ≤ k
  · have d0 : decide (0 ≤ k) = true := by simpa using h0
    go_enter Tryz.func99, Tryz.ntmps99
    go_wp2_with (go_at_call 46; refine H.out.mono ?_; rintro e w' ⟨rfl, rfl⟩)
    go_ret
    exact ⟨ret_b (by unfold hasB; rw [decide_eq_decide]; omega), rfl⟩
  · have d0 : decide (0 ≤ k) = false := by simpa using h0
    go_enter Tryz.func99, Tryz.ntmps99
    go_wp2
    go_ret
    exact ⟨ret_b (by unfold hasB; symm; rw [decide_eq_false_iff_not]; omega), rfl⟩
end
end Go.Proofs.YtckcgaliphpgeaaGreatDoor.Os

/-
  What a slab is asked about its places and its slots: contracts that the claimed proofs use.
-/
namespace Go.Proofs.YtckcgaliphpgeaaGreatDoor.Os
set_option maxRecDepth 100000
open Go.RowKit
open Ta (sz szs classB classB_iff classB_not sizeOf' slotsOf)
open Bi (sets bt on first setL setB tst hasB u Blk Drawn grown_refl grown_trans grown_below up_alloc up_drew up_trans i64_in ret_i ret_b)

def I64 (n : Int) : Prop := -9223372036854775808 ≤ n ∧ n ≤ 9223372036854775807
section
variable {w w' : World} {s q g : Nat} {b c : Int} {l : List Bool}
def sle (k : Int) : Int := if k < 0 then 12 else 0
set_option maxHeartbeats 1000000 in
theorem slot_any (x : Int) (hx : I64 x) (h : Sl w s q g b c l) (hT : Tb w) : Calls Tryz.prog 68 #[.pointer (some ⟨s, 0, none⟩), .int .i64 x] w fun e w' => e = .returned (.tuple #[.int .i64 (slotI l.length b (sizeOf' c) x), .int .i64 (sle (slotI l.length b (sizeOf' c) x))]) ∧ w = w' := by
  have c0 := h.c0
  have HS := Lib.hid (size_any h hT)
  have HH := Lib.hid (fun k => has_any k h)
  obtain ⟨z0, z1, _⟩ := cls h.hc
  obtain ⟨b0, b1, _⟩ := baseB_iff.1 h.hb
  obtain ⟨_, hl⟩ := h.len_le
  obtain ⟨z, hz⟩ : ∃ z, sizeOf' c = z := ⟨_, rfl⟩
  obtain ⟨n, hn⟩ : ∃ n, l.length = n := ⟨_, rfl⟩
  rw [hz] at HS z0 z1 ⊢
  rw [hn] at HH hl ⊢
  clear h hT hz hn
  unfold I64 at hx
  obtain ⟨d, hd⟩ : ∃ d, IntKind.i64.wrap (x - b) = d := ⟨_, rfl⟩
  have hdb : I64 d := by rw [← hd, IntKind.wrap_i64]; unfold I64; omega
  unfold I64 at hdb
  have hzn : (z == 0) = false := by simp; omega
  have hq : (z == -1) = false := by simp; omega
  have w1 : IntKind.i64.wrap (d.tdiv z) = d.tdiv z := by
    have h1 : (d.tdiv z).natAbs ≤ d.natAbs / 16 := by rw [Int.natAbs_tdiv]; exact Nat.div_le_div_left (by omega) (by omega)
    rw [IntKind.wrap_i64]; omega
  by_cases hm : d.tmod z = 0
  · have e0 : (d.tmod z != 0) = false := by simpa using hm
    have hk : d.tdiv z * z = d := by have := Int.mul_tdiv_add_tmod d z; rw [hm, Int.mul_comm] at this; omega
    have HQ : Hid (slotI n b z x = if hasB n (d.tdiv z) = true then d.tdiv z else -1) := by
      show _ = _
      generalize d.tdiv z = k at hk
      subst hk
      rcases slot_is (n := n) (b := b) x (show 0 < z by omega) with ⟨e1, e2⟩ | ⟨j, j1, e1, e2⟩
      · rw [e1, if_neg]
        intro hh
        obtain ⟨k0, k1⟩ := Bi.hasB_iff.1 hh
        obtain ⟨K, rfl⟩ := Int.eq_ofNat_of_zero_le k0
        refine e2 K (by omega) ?_
        rw [IntKind.wrap_i64] at hd
        have h3 : (K : Int) * z ≤ 64 * 512 := Int.mul_le_mul (by omega) z1 (by omega) (by omega)
        have h4 : 0 ≤ (K : Int) * z := Int.mul_nonneg (by omega) (by omega)
        omega
      · rw [e1]
        have h3 : (j : Int) * z ≤ 64 * 512 := Int.mul_le_mul (by omega) z1 (by omega) (by omega)
        have h4 : 0 ≤ (j : Int) * z := Int.mul_nonneg (by omega) (by omega)
        have h5 : k * z = j * z := by rw [IntKind.wrap_i64] at hd; omega
        have h6 : k = j := Int.eq_of_mul_eq_mul_right (by omega) h5
        rw [h6, if_pos (Bi.hasB_iff.2 (by omega))]
    generalize hkk : d.tdiv z = k at *
    cases hh : hasB n k with
    | true =>
      rw [hh, if_pos rfl] at HQ
      have hs : Hid (sle k = 0) := if_neg (by have := Bi.hasB_iff.1 hh; omega)
      have HH2 := Lib.hid (HH.out k)
      rw [hh] at HH2
      clear hh hm hk hdb HH
      go_enter Tryz.func68, Tryz.ntmps68
      go_wp2_with (first
        | (go_at_call 22; refine HS.out.mono ?_; rintro e w' ⟨rfl, rfl⟩)
        | (go_at_call 99; refine HH2.out.mono ?_; rintro e w' ⟨rfl, rfl⟩))
      go_ret2
      exact ⟨ret_ii HQ.out.symm (by rw [HQ.out]; exact hs.out.symm), rfl⟩
    | false =>
      rw [hh, if_neg (by simp)] at HQ
      have HH2 := Lib.hid (HH.out k)
      rw [hh] at HH2
      clear hh hm hk hdb HH
      go_enter Tryz.func68, Tryz.ntmps68
      go_wp2_with (first
        | (go_at_call 22; refine HS.out.mono ?_; rintro e w' ⟨rfl, rfl⟩)
        | (go_at_call 99; refine HH2.out.mono ?_; rintro e w' ⟨rfl, rfl⟩))
      go_ret2
      exact ⟨ret_ii HQ.out.symm (by rw [HQ.out]; rfl), rfl⟩
  · have e0 : (d.tmod z != 0) = true := by simpa using hm
    have HQ : Hid (slotI n b z x = -1) := by
      rcases slot_is (n := n) (b := b) x (show 0 < z by omega) with ⟨e1, _⟩ | ⟨j, j1, e1, e2⟩
      · exact e1
      · exfalso
        have h3 : (j : Int) * z ≤ 64 * 512 := Int.mul_le_mul (by omega) z1 (by omega) (by omega)
        have h4 : 0 ≤ (j : Int) * z := Int.mul_nonneg (by omega) (by omega)
        have h5 : d = j * z := by rw [IntKind.wrap_i64] at hd; omega
        exact hm (by rw [h5, Int.mul_tmod_left])
    generalize hkk : d.tdiv z = k at *
    clear hm hdb HH
    go_enter Tryz.func68, Tryz.ntmps68
    go_wp2_with (first
      | (go_at_call 22; refine HS.out.mono ?_; rintro e w' ⟨rfl, rfl⟩))
    go_ret2
    exact ⟨ret_ii HQ.out.symm (by rw [HQ.out]; rfl), rfl⟩
end
end Go.Proofs.YtckcgaliphpgeaaGreatDoor.Os

/-
  What a slab tells of its slots: contracts that the claimed proofs use.
-/
namespace Go.Proofs.YtckcgaliphpgeaaGreatDoor.Os
set_option maxRecDepth 100000
open Go.RowKit
open Ta (sz szs classB classB_iff classB_not sizeOf' slotsOf)
open Bi (sets bt on first setL setB tst hasB u Blk Drawn grown_refl grown_trans grown_below up_alloc up_drew up_trans i64_in ret_i ret_b)

section
variable {w w' : World} {s q g : Nat} {b c : Int} {l : List Bool}
theorem Sl.drewN (h : Sl w s q g b c l) (a : Nat) : Sl (w.drewN a) s q g b c l := h.below (up_drew (Below.refl _ w) a)
theorem Tb.drewN (h : Tb w) (a : Nat) : Tb (w.drewN a) := h.below (up_drew (Below.refl _ w) a)
theorem size_quiet (a : Nat) (h : Sl w s q g b c l) (hT : Tb w) : Calls Tryz.prog 22 #[.pointer (some ⟨s, 0, none⟩)] (w.drewN a) fun e w' => e = .returned (.int .i64 (sizeOf' c)) ∧ ∃ m, w' = w.drewN m :=
  (size_any (h.drewN a) (hT.drewN a)).mono fun _ _ ⟨he, hw⟩ => ⟨he, a, hw.symm⟩
theorem slots_quiet (a : Nat) (h : Sl w s q g b c l) : Calls Tryz.prog 46 #[.pointer (some ⟨s, 0, none⟩)] (w.drewN a) fun e w' => e = .returned (.int .i64 (l.length : Int)) ∧ ∃ m, w' = w.drewN m :=
  (slots_any (h.drewN a)).mono fun _ _ ⟨he, hw⟩ => ⟨he, a, hw.symm⟩
theorem count_quiet (a : Nat) (h : Sl w s q g b c l) : Calls Tryz.prog 47 #[.pointer (some ⟨q, 0, none⟩)] (w.drewN a) fun e w' => e = .returned (.int .i64 ((sets l).length : Int)) ∧ ∃ m, w' = w.drewN m := by
  obtain ⟨ws, hm⟩ := (h.drewN a).bits
  exact (Bi.count_any q g l ws _ hm).mono fun _ _ ⟨he, hw⟩ => ⟨he, a, hw.symm⟩
/-! ### Address -/
def adV (b z : Int) (n : Nat) (k : Int) : Int := if hasB n k = true then b + k * z else -1
theorem address_any (k : Int) (h : Sl w s q g b c l) (hT : Tb w) : Calls Tryz.prog 50 #[.pointer (some ⟨s, 0, none⟩), .int .i64 k] w fun e w' => e = .returned (.tuple #[.int .i64 (adV b (sizeOf' c) l.length k), .bool (hasB l.length k)]) ∧ Drawn w w' := by
  have c0 := h.c0
  have HS := Lib.hid (fun a => size_quiet a h hT)
  have HH := Lib.hid (has_any k h)
  obtain ⟨z0, z1, _⟩ := cls h.hc
  obtain ⟨b0, b1, _⟩ := baseB_iff.1 h.hb
  have hl := h.len_le.2
  obtain ⟨z, hz⟩ : ∃ z, sizeOf' c = z := ⟨_, rfl⟩
  obtain ⟨n, hn⟩ : ∃ n, l.length = n := ⟨_, rfl⟩
  rw [hz] at HS z0 z1 ⊢
  rw [hn] at HH hl ⊢
  clear h hT hz hn
  unfold adV
  cases hh : hasB n k with
  | false =>
    rw [hh] at HH
    clear hh
    go_enter Tryz.func50, Tryz.ntmps50
    go_wp2_with (go_at_call 99; refine HH.out.mono ?_; rintro e w' ⟨rfl, rfl⟩)
    go_ret2
    exact ⟨rfl, Drawn.refl _⟩
  | true =>
    rw [hh] at HH
    obtain ⟨k0, k1⟩ := Bi.hasB_iff.1 hh
    have h3 : k * z ≤ 64 * 512 := Int.mul_le_mul (by omega) z1 (by omega) (by omega)
    have h4 : 0 ≤ k * z := Int.mul_nonneg (by omega) (by omega)
    obtain ⟨m, hm⟩ : ∃ m, k * z = m := ⟨_, rfl⟩
    rw [hm] at h3 h4
    have w1 := i64_in m (by omega) (by omega)
    have w2 := i64_in (b + m) (by omega) (by omega)
    rw [if_pos rfl, hm]
    clear hh k0 k1
    go_enter Tryz.func50, Tryz.ntmps50
    go_wp2_with (go_at_call 99; refine HH.out.mono ?_; rintro e w' ⟨rfl, rfl⟩)
    go_quiet ((go_at_call 22; exact HS.out _))
    go_wp2
    go_ret2
    exact ⟨rfl, _, rfl⟩
/-! ### Free and State -/
theorem free_any (h : Sl w s q g b c l) : Calls Tryz.prog 17 #[.pointer (some ⟨s, 0, none⟩)] w fun e w' => e = .returned (.int .i64 (fr l : Int)) ∧ Drawn w w' := by
  have c2 := h.c2
  have HS := Lib.hid (fun a => slots_quiet a h)
  have HC := Lib.hid (fun a => count_quiet a h)
  have hl := h.len_le.2
  have hsl := Bi.sets_length_le l
  have hfr : (fr l : Int) = (l.length : Int) - ((sets l).length : Int) := by unfold fr; omega
  rw [hfr]
  obtain ⟨n, hn⟩ : ∃ n, l.length = n := ⟨_, rfl⟩
  obtain ⟨m, hm⟩ : ∃ m, (sets l).length = m := ⟨_, rfl⟩
  rw [hn] at HS hl hsl ⊢
  rw [hm] at HC hsl ⊢
  have w1 := i64_in ((n : Int) - m) (by omega) (by omega)
  clear h hn hm hfr
  go_enter Tryz.func17, Tryz.ntmps17
  go_wp2_with fail
  go_quiet ((first | (go_at_call 46; exact HS.out _) | (go_at_call 47; exact HC.out _)))
  go_wp2
  go_ret
  exact ⟨rfl, _, rfl⟩
def stI (l : List Bool) : Int := if fr l = l.length then 0 else if fr l = 0 then 2 else 1
theorem state_any (h : Sl w s q g b c l) : Calls Tryz.prog 56 #[.pointer (some ⟨s, 0, none⟩)] w fun e w' => e = .returned (.int .i64 (stI l)) ∧ Drawn w w' := by
  have HF := Lib.hid (free_any h)
  have HS := Lib.hid (fun (V : World) (hb : Below w.heap.size w V) => slots_any (h.below hb))
  unfold stI
  have hl := h.len_le.2
  have hfl := fr_le l
  obtain ⟨n, hn⟩ : ∃ n, l.length = n := ⟨_, rfl⟩
  obtain ⟨m, hm⟩ : ∃ m, fr l = m := ⟨_, rfl⟩
  rw [hn] at HS hl hfl ⊢
  rw [hm] at HF hfl ⊢
  clear h hn hm
  by_cases h1 : m = n
  · have d1 : ((m : Int) == (n : Int)) = true := by simp; omega
    rw [if_pos h1]
    clear h1
    go_enter Tryz.func56, Tryz.ntmps56
    go_wp2_with fail
    refine HF.out.mono ?_
    rintro e w1 ⟨rfl, hd⟩
    have HD := Lib.hid hd
    have HS1 := Lib.hid (HS.out _ hd.below)
    clear hd HS HF
    go_wp2_with (go_at_call 46; refine HS1.out.mono ?_; rintro e w' ⟨rfl, rfl⟩)
    go_ret
    exact ⟨rfl, HD.out⟩
  · have d1 : ((m : Int) == (n : Int)) = false := by simp; omega
    rw [if_neg h1]
    by_cases h2 : m = 0
    · have d2 : ((m : Int) == 0) = true := by simp; omega
      rw [if_pos h2]
      clear h1 h2
      go_enter Tryz.func56, Tryz.ntmps56
      go_wp2_with fail
      refine HF.out.mono ?_
      rintro e w1 ⟨rfl, hd⟩
      have HD := Lib.hid hd
      have HS1 := Lib.hid (HS.out _ hd.below)
      clear hd HS HF
      go_wp2_with (go_at_call 46; refine HS1.out.mono ?_; rintro e w' ⟨rfl, rfl⟩)
      go_ret
      exact ⟨rfl, HD.out⟩
    · have d2 : ((m : Int) == 0) = false := by simp; omega
      rw [if_neg h2]
      clear h1 h2
      go_enter Tryz.func56, Tryz.ntmps56
      go_wp2_with fail
      refine HF.out.mono ?_
      rintro e w1 ⟨rfl, hd⟩
      have HD := Lib.hid hd
      have HS1 := Lib.hid (HS.out _ hd.below)
      clear hd HS HF
      go_wp2_with (go_at_call 46; refine HS1.out.mono ?_; rintro e w' ⟨rfl, rfl⟩)
      go_ret
      exact ⟨rfl, HD.out⟩
/-! ### Taken, Key and Clone -/
def nats (xs : List Nat) : List Int := xs.map fun (x : Nat) => (x : Int)
theorem irow_ints (xs : List Nat) : Bi.irow xs = ints (nats xs) := by unfold Bi.irow ints nats; rw [List.map_map]; rfl
theorem at_of_ia {w : World} {A : Option Addr} {xs : List Nat} (h : Bi.IA w.heap.size w A xs) : At w.heap.size w A (ints (nats xs)) := fun hp => by
  rw [← irow_ints, Bi.irow_length] at hp
  obtain ⟨g, o, e, h1, h2⟩ := h hp
  refine ⟨g, o, e, h1, fun j v hj => ?_⟩
  rw [← irow_ints] at hj
  have hl : j < xs.length := by have := (List.getElem?_eq_some_iff.1 hj).1; rwa [Bi.irow_length] at this
  rw [Bi.irow_get hl] at hj
  rw [h2 j hl]; exact hj
theorem taken_any (h : Sl w s q g b c l) (hT : Tb w) : Calls Tryz.prog 16 #[.pointer (some ⟨s, 0, none⟩)] w fun e w' => ∃ A c, e = .returned (.slice A (nats (sets l)).length c) ∧ At w'.heap.size w' A (ints (nats (sets l))) ∧ Below w.heap.size w w' := by
  have c2 := h.c2
  obtain ⟨ws, hm⟩ := h.bits
  have HL := Lib.hid (Bi.list_any q g l ws w hm hT.bits)
  have hlen : (nats (sets l)).length = (sets l).length := by unfold nats; rw [List.length_map]
  rw [hlen]
  generalize sets l = xs at *
  obtain ⟨n, hn⟩ : ∃ n, xs.length = n := ⟨_, rfl⟩
  unfold Bi.Gave at HL
  rw [hn] at HL ⊢
  clear h hm hT hn hlen
  go_enter Tryz.func16, Tryz.ntmps16
  go_wp2_with fail
  refine HL.out.mono ?_
  rintro e w1 ⟨g', cap, rfl, _, ha, hb⟩
  have HA := Lib.hid (at_of_ia ha)
  have HB := Lib.hid hb
  clear ha hb
  go_wp2
  go_ret
  exact ⟨_, _, rfl, HA.out, HB.out⟩
/-- A word is a row's bits. -/
def Wd (x : BitVec 64) (l : List Bool) : Prop := ∀ j, j < 64 → x.getLsbD j = bt l j
theorem Wd.one {x y : BitVec 64} {l : List Bool} (h : Wd x l) (k : Wd y l) : x = y := BitVec.eq_of_getLsbD_eq fun j hj => (h j hj).trans (k j hj).symm
theorem Wd.same {x : BitVec 64} {l l' : List Bool} (h : Wd x l) (k : Wd x l') (e : l.length = l'.length) (hl : l.length ≤ 64) : l = l' := by
  apply List.ext_getElem e
  intro j h1 h2
  have := (h j (by omega)).symm.trans (k j (by omega))
  unfold bt at this
  rw [List.getD_eq_getElem?_getD, List.getD_eq_getElem?_getD, List.getElem?_eq_getElem h1, List.getElem?_eq_getElem h2] at this
  exact this
def keyW (x : BitVec 64) : Value := .agg #[.int .u64 (u x), .int .u64 0, .int .u64 0, .int .u64 0]
theorem word_of {l : List Bool} {ws : List (BitVec 64)} (h : Bi.Fits l ws) (h1 : 1 ≤ l.length) (h2 : l.length ≤ 64) : ∃ x, ws = [x] ∧ Wd x l := by
  have e : ws.length = 1 := by have := h.1; omega
  obtain ⟨x, rfl⟩ := List.length_eq_one_iff.1 e
  refine ⟨x, rfl, fun j hj => ?_⟩
  have := h.2 0 j hj
  simpa [bt] using this
/-- A slab of its own is answered. -/
def GaveS (b c : Int) (l : List Bool) (w : World) (e : Ending) (w' : World) : Prop := ∃ s q g, e = .returned (.pointer (some ⟨s, 0, none⟩)) ∧ Sl w' s q g b c l ∧ w.heap.size ≤ s ∧ w.heap.size ≤ g ∧ Below w.heap.size w w'
theorem clone_any (h : Sl w s q g b c l) : Calls Tryz.prog 43 #[.pointer (some ⟨s, 0, none⟩)] w (GaveS b c l w) := by
  have c0 := h.c0
  have c1 := h.c1
  have c2 := h.c2
  obtain ⟨ws, hm⟩ := h.bits
  have HC := Lib.hid (Bi.clone_any q g l ws w.drew (hm.below (up_drew (Below.refl _ w) 1)))
  have HH := Lib.hid h
  have hlt := h.lt.1
  clear h hm
  go_enter Tryz.func43, Tryz.ntmps43
  go_wp2_with fail
  go_region_held3 (fun w' => w'.cell? ⟨s, 0, none⟩ = some (.int .i64 b) ∧ w'.cell? ⟨s, 1, none⟩ = some (.int .i64 c) ∧ w'.cell? ⟨s, 2, none⟩ = some (.pointer (some ⟨q, 0, none⟩)))
    (first | exact ⟨(Bi.cell_alloc _ (Nat.lt_of_lt_of_le hlt hb2.size)).trans ((hb2.cell (p := ⟨s, 0, none⟩) hlt).trans c0), (Bi.cell_alloc _ (Nat.lt_of_lt_of_le hlt hb2.size)).trans ((hb2.cell (p := ⟨s, 1, none⟩) hlt).trans c1), (Bi.cell_alloc _ (Nat.lt_of_lt_of_le hlt hb2.size)).trans ((hb2.cell (p := ⟨s, 2, none⟩) hlt).trans c2)⟩ | exact ⟨(hb2.cell (p := ⟨s, 0, none⟩) hlt).trans c0, (hb2.cell (p := ⟨s, 1, none⟩) hlt).trans c1, (hb2.cell (p := ⟨s, 2, none⟩) hlt).trans c2⟩ | exact ⟨c0, c1, c2⟩)
    ((go_at_call 90; refine HC.out.mono ?_; rintro e w2 ⟨q2, g2, rfl, hq2, hg2, hm2, hb2⟩))
  go_wp2
  go_ret
  have hz : w.heap.size ≤ w2.heap.size := hb2.size
  have hs := HH.out.pos
  exact ⟨w2.heap.size, q2, g2, rfl, ⟨heap_alloc_new w2 _, ⟨ws, hm2.below (up_alloc (Below.refl _ _) _)⟩, HH.out.hb, HH.out.hc, HH.out.len, by omega⟩, hz, hg2, up_alloc ((Below.refl _ w).drew.trans hb2) _⟩
end
end Go.Proofs.YtckcgaliphpgeaaGreatDoor.Os

/-
  What makes a slab: contracts that the claimed proofs use.
-/
namespace Go.Proofs.YtckcgaliphpgeaaGreatDoor.Os
set_option maxRecDepth 100000
open Go.RowKit
open Ta (sz szs classB classB_iff classB_not sizeOf' slotsOf)
open Bi (sets bt on first setL setB tst hasB u Blk Drawn grown_refl grown_trans grown_below up_alloc up_drew up_trans i64_in ret_i ret_b)

/-- A slab of which no slot is taken. -/
def l0 (c : Int) : List Bool := List.replicate (nS c) false
theorem l0_len (c : Int) : (l0 c).length = nS c := by simp [l0]
/-- What With answers where base and class are right. -/
def GaveWi (b c : Int) (xs : List Int) (w : World) (e : Ending) (w' : World) : Prop :=
  Below w.heap.size w w' ∧ ((wiB (l0 c) xs = true ∧ ∃ s q g, e = .returned (.tuple #[.pointer (some ⟨s, 0, none⟩), .int .i64 0]) ∧ Sl w' s q g b c (wiS (l0 c) xs) ∧ w.heap.size ≤ s ∧ w.heap.size ≤ g) ∨
    (wiB (l0 c) xs = false ∧ e = .returned (.tuple #[.pointer none, .int .i64 10])))
section
variable {w w' : World} {b c : Int}
theorem with_no (A : Option Addr) (n cap : Nat) (hT : Tb w) (h : (baseB b && classB c) = false) : Calls Tryz.prog 150 #[.int .i64 b, .int .i64 c, .slice A n cap] w fun e w' => e = .returned (.tuple #[.pointer none, .int .i64 11]) ∧ w = w' := by
  have HS := Lib.hid (Ta.size_any c w hT.cls)
  have HI := Lib.hid (isBase_any b w)
  clear hT
  cases hb : baseB b with
  | false =>
    rw [hb] at HI
    clear h hb
    go_enter Tryz.func150, Tryz.ntmps150
    go_wp2_with (first
      | (go_at_call 178; refine HI.out.mono ?_; rintro e w' ⟨rfl, rfl⟩))
    go_ret2
    exact ⟨rfl, rfl⟩
  | true =>
    rw [hb] at HI h
    have hz : sizeOf' c = 0 := Ta.sizeOf_no (by simpa using h)
    rw [hz] at HS
    clear h hb hz
    go_enter Tryz.func150, Tryz.ntmps150
    go_wp2_with (first
      | (go_at_call 178; refine HI.out.mono ?_; rintro e w' ⟨rfl, rfl⟩)
      | (go_at_call 53; refine HS.out.mono ?_; rintro e w' ⟨rfl, rfl⟩))
    go_ret2
    exact ⟨rfl, rfl⟩
set_option maxHeartbeats 2000000 in
theorem with_yes (A : Option Addr) (n cap : Nat) (xs : List Int) (hA : At w.heap.size w A (ints xs)) (hn : xs.length = n) (hn2 : n ≤ 1048576) (hT : Tb w) (hb : baseB b = true) (hc : classB c = true) :
    Calls Tryz.prog 150 #[.int .i64 b, .int .i64 c, .slice A n cap] w (GaveWi b c xs w) := by
  have HS := Lib.hid (Ta.size_any c w hT.cls)
  have HI := Lib.hid (isBase_any b w)
  have HL := Lib.hid (Ta.slots_any c w hT.cls)
  obtain ⟨z0, z1, n0, n1, _, e1, _⟩ := cls hc
  have hz : (sizeOf' c == 0) = false := by simp; omega
  have HN := Lib.hid (Bi.new_yes (nS c) (by omega) w hT.lt)
  unfold Bi.Newed at HN
  rw [hb] at HI
  rw [e1] at HL
  have HP : Hid (baseB b = true ∧ classB c = true ∧ 1 < w.heap.size) := ⟨hb, hc, hT.lt⟩
  have HA := Lib.hid hA
  have HX := Lib.hid hn
  obtain ⟨N, hN⟩ : ∃ N, nS c = N := ⟨_, rfl⟩
  have HNN := Lib.hid hN
  rw [hN] at HN HL n1
  obtain ⟨Z, hZ⟩ : ∃ Z, sizeOf' c = Z := ⟨_, rfl⟩
  rw [hZ] at HS hz
  clear hb hc hT hA hn z0 z1 n0 e1 hN hZ
  go_enter Tryz.func150, Tryz.ntmps150
  go_wp2_with (first
    | (go_at_call 178; refine HI.out.mono ?_; rintro e w' ⟨rfl, rfl⟩)
    | (go_at_call 53; refine HS.out.mono ?_; rintro e w' ⟨rfl, rfl⟩)
    | (go_at_call 180; refine HL.out.mono ?_; rintro e w' ⟨rfl, rfl⟩)
    | (go_at_call 179; refine HN.out.mono ?_; rintro e w1 ⟨rfl, m1, b1, s1⟩; have M1 := Lib.hid m1; have B1 := Lib.hid b1; clear m1 b1 s1))
  go_loopw [28] (fun i wr => ∃ (k : Nat) (l : List Bool) (ws : List (BitVec 64)), k ≤ n ∧ i = .int .i64 k ∧ Bi.Bits wr (w.heap.size + 1) w.heap.size l ws ∧ l.length = N ∧ wiB (l0 c) xs = wiB l (xs.drop k) ∧ wiS (l0 c) xs = wiS l (xs.drop k) ∧ Below w.heap.size w wr) (fun i _ => n - (intOf i).toNat)
  case atStart => exact ⟨0, _, _, by omega, rfl, M1.out, by simp, by rw [← HNN.out, List.drop_zero]; rfl, by rw [← HNN.out, List.drop_zero]; rfl, B1.out⟩
  case round =>
    obtain ⟨k, l, ws, hk, rfl, hm, hl, h1, h2, hbel⟩ := hrel
    have HM := Lib.hid hm
    have HLN := Lib.hid hl
    have H1 := Lib.hid h1
    have H2 := Lib.hid h2
    have HB := Lib.hid hbel
    clear hm hl h1 h2 hbel
    by_cases hlt : k < n
    · have hkl : k < xs.length := by rw [HX.out]; exact hlt
      obtain ⟨ab, ao, rfl, _, q0⟩ := (HA.out.below HB.out).int hkl
      have HD : Hid (xs.drop k = xs[k] :: xs.drop (k + 1)) := List.drop_eq_getElem_cons hkl
      obtain ⟨x, hx⟩ : ∃ x, xs[k] = x := ⟨_, rfl⟩
      rw [hx] at q0 HD
      have j1 : (0 : Int) ≤ (k : Int) := by omega
      have j2 : (k : Int) < (n : Int) := by omega
      have HSet := Lib.hid (Bi.set_any _ _ _ _ x wr HM.out)
      unfold Bi.Turned at HSet
      clear hx hkl
      cases hs : setB l x true with
      | true =>
        rw [hs] at HSet
        have HQ := Lib.hid hs
        clear hs
        go_wp2_with (go_at_call 116; refine HSet.out.mono ?_; rintro e w2 ⟨rfl, ⟨ws2, m2⟩, g2⟩; have M2 := Lib.hid m2; have B2 := Lib.hid (Bi.below_grown HB.out g2 HB.out.size (Nat.le_refl _)); clear m2 g2)
        go_roundw
        case rel => exact ⟨k + 1, setL l x true, ws2, by omega, by go_num, M2.out, by rw [Bi.setL_length]; exact HLN.out, by rw [H1.out, HD.out, wiB, HQ.out, Bool.true_and], by rw [H2.out, HD.out, wiS], B2.out⟩
        case measure => simp [intOf]; omega
      | false =>
        rw [hs] at HSet
        have HQ := Lib.hid hs
        clear hs
        go_wp2_with (go_at_call 116; refine HSet.out.mono ?_; rintro e w2 ⟨rfl, ⟨ws2, m2⟩, g2⟩; have B2 := Lib.hid (Bi.below_grown HB.out g2 HB.out.size (Nat.le_refl _)); clear m2 g2)
        go_ret2
        exact ⟨B2.out, .inr ⟨by rw [H1.out, HD.out, wiB, HQ.out, Bool.false_and], rfl⟩⟩
    · obtain rfl : k = n := by omega
      have hD : xs.drop k = [] := List.drop_eq_nil_of_le (by rw [HX.out]; exact Nat.le_refl _)
      have HE : Hid (wiB (l0 c) xs = true ∧ wiS (l0 c) xs = l) := ⟨by rw [H1.out, hD]; rfl, by rw [H2.out, hD]; rfl⟩
      clear hD
      go_wp2
      go_ret2
      obtain ⟨p1, p2, p3⟩ := HP.out
      have hz2 := HB.out.size
      refine ⟨up_alloc HB.out _, .inl ⟨HE.out.1, wr.heap.size, w.heap.size + 1, w.heap.size, rfl, ⟨heap_alloc_new wr _, ⟨ws, by rw [HE.out.2]; exact HM.out.below (up_alloc (Below.refl _ _) _)⟩, p1, p2, ?_, by omega⟩, hz2, Nat.le_refl _⟩⟩
      rw [HE.out.2, HLN.out, HNN.out]
/-- New. -/
def GaveN (b c : Int) (w : World) (e : Ending) (w' : World) : Prop :=
  Below w.heap.size w w' ∧ ∃ s q g, e = .returned (.tuple #[.pointer (some ⟨s, 0, none⟩), .int .i64 0]) ∧ Sl w' s q g b c (l0 c) ∧ w.heap.size ≤ s ∧ w.heap.size ≤ g
theorem new_no (hT : Tb w) (h : (baseB b && classB c) = false) : Calls Tryz.prog 114 #[.int .i64 b, .int .i64 c] w fun e w' => e = .returned (.tuple #[.pointer none, .int .i64 11]) ∧ w = w' := by
  have HW := Lib.hid (with_no none 0 0 hT h)
  clear hT h
  go_enter Tryz.func114, Tryz.ntmps114
  go_wp2_with (go_at_call 150; refine HW.out.mono ?_; rintro e w' ⟨rfl, rfl⟩)
  go_ret2
  exact ⟨rfl, rfl⟩
theorem new_yes (hT : Tb w) (hb : baseB b = true) (hc : classB c = true) : Calls Tryz.prog 114 #[.int .i64 b, .int .i64 c] w (GaveN b c w) := by
  have HW := Lib.hid (with_yes none 0 0 [] (fun h => by simp [ints] at h) rfl (by omega) hT hb hc)
  clear hT hb hc
  go_enter Tryz.func114, Tryz.ntmps114
  go_wp2_with fail
  refine HW.out.mono ?_
  rintro e w1 ⟨b1, h⟩
  rcases h with ⟨_, s, q, g, rfl, h1, h2, h3⟩ | ⟨h, _⟩
  · have H1 : Hid (Below w.heap.size w w1 ∧ Sl w1 s q g b c (l0 c) ∧ w.heap.size ≤ s ∧ w.heap.size ≤ g) := ⟨b1, h1, h2, h3⟩
    clear b1 h1 h2 h3 HW
    go_wp2
    go_ret2
    exact ⟨H1.out.1, s, q, g, rfl, H1.out.2⟩
  · cases h
end
end Go.Proofs.YtckcgaliphpgeaaGreatDoor.Os

/-
  What Take and Some do: contracts that the claimed proofs use.
-/
namespace Go.Proofs.YtckcgaliphpgeaaGreatDoor.Os
set_option maxRecDepth 100000
open Go.RowKit
open Ta (sz szs classB classB_iff classB_not sizeOf' slotsOf)
open Bi (sets bt on first setL setB tst hasB u Blk Drawn grown_refl grown_trans grown_below up_alloc up_drew up_trans i64_in ret_i ret_b)

section
variable {w w' : World} {s q g : Nat} {b c : Int} {l : List Bool}
/-- A slab has become another one: its row's words, or the row, are others. -/
def Bec (s g : Nat) (b c : Int) (l : List Bool) (w w' : World) : Prop := ∃ q' g', Sl w' s q' g' b c l ∧ Fr s g w w' ∧ (g' = g ∨ w.heap.size ≤ g')
theorem Bec.same (h : Sl w s q g b c l) (hb : Below w.heap.size w w') : Bec s g b c l w w' := ⟨q, g, h.below hb, Fr.of hb, .inl rfl⟩
theorem Bec.on {w1 : World} {l' : List Bool} (hb : Below w.heap.size w w1) (h : Bec s g b c l' w1 w') : Bec s g b c l' w w' := by
  obtain ⟨q', g', h1, h2, h3⟩ := h
  exact ⟨q', g', h1, (Fr.of hb).trans h2 (.inl rfl), h3.imp_right (fun e => Nat.le_trans hb.size e)⟩
/-- A slab whose row's words have changed. -/
theorem Sl.turned {l' : List Bool} (h : Sl w s q g b c l) (hm : ∃ ws, Bi.Bits w' q g l' ws) (hg : w.grownBy w' (some g)) (hl : l'.length = l.length) : Sl w' s q g b c l' := by
  have hk := h.kinds
  exact ⟨h.blk.far hg (kne hk.1 hk.2.2 (by decide)), hm, h.hb, h.hc, hl.trans h.len, h.pos⟩
theorem first_quiet (h : Sl w s q g b c l) (hT : Tb w) : Calls Tryz.prog 115 #[.pointer (some ⟨q, 0, none⟩), .int .i64 0, .bool false] w fun e w' => e = .returned (.int .i64 (tkI l)) ∧ w = w' := by
  obtain ⟨ws, hm⟩ := h.bits
  exact Bi.first_any q g 0 l ws false w hm hT.bits
set_option maxHeartbeats 1000000 in
theorem take_any (h : Sl w s q g b c l) (hT : Tb w) : Calls Tryz.prog 67 #[.pointer (some ⟨s, 0, none⟩)] w fun e w' => e = .returned (.tuple #[.int .i64 (tkV b (sizeOf' c) l), .int .i64 (tkE l)]) ∧ Bec s g b c (tkL l) w w' := by
  have c2 := h.c2
  have HF := Lib.hid (first_quiet h hT)
  have HA := Lib.hid (address_any (tkI l) h hT)
  have HH := Lib.hid h
  by_cases hk : tkI l < 0
  · obtain ⟨e1, e2, e3, _⟩ := tk_no hk
    have hn : hasB l.length (tkI l) = false := Bi.hasB_not.2 (by omega)
    have hv : adV b (sizeOf' c) l.length (tkI l) = -1 := by unfold adV; rw [hn]; rfl
    rw [hn, hv] at HA
    rw [e1, e2, e3 b]
    clear h hT hk e1 e2 e3 hn hv
    generalize tkI l = k at *
    go_enter Tryz.func67, Tryz.ntmps67
    go_wp2_with (first
      | (go_at_call 115; refine HF.out.mono ?_; rintro e w' ⟨rfl, rfl⟩)
      | (go_at_call 50; refine HA.out.mono ?_; rintro e w1 ⟨rfl, d1⟩; have D1 := Lib.hid d1.below; clear d1))
    go_ret2
    exact ⟨rfl, Bec.same HH.out D1.out⟩
  · obtain ⟨k, e1, e2, e3, _, e4, e5, e6, _⟩ := tk_yes hk
    rw [e1] at HA HF
    have hn : hasB l.length (k : Int) = true := Bi.hasB_iff.2 (by omega)
    have hv : adV b (sizeOf' c) l.length (k : Int) = b + k * sizeOf' c := by unfold adV; rw [hn]; rfl
    rw [hn, hv] at HA
    rw [e4, e5, e6 b]
    have HSet : Hid (∀ V : World, Below w.heap.size w V → Calls Tryz.prog 116 #[.pointer (some ⟨q, 0, none⟩), .int .i64 (k : Int)] V fun e w' => e = .returned (.bool true) ∧ Bec s g b c (l.set k true) w w') := by
      intro V hV
      obtain ⟨ws, hm⟩ := (HH.out.below hV).bits
      have := Bi.set_any q g l ws (k : Int) V hm
      have e7 : setB l (k : Int) true = true := by unfold setB; rw [hn, Int.toNat_natCast]; unfold bt at e3; rw [e3]; rfl
      rw [setL_nat e2, e7] at this
      refine this.mono ?_
      rintro e w2 ⟨rfl, m2, g2⟩
      exact ⟨rfl, Bec.on hV ⟨q, g, (HH.out.below hV).turned m2 g2 (by simp), Fr.grown g2, .inl rfl⟩⟩
    have hlt := HH.out.lt.1
    generalize b + (k : Int) * sizeOf' c = v at *
    clear h hT hk e1 e2 e3 e4 e5 e6 hn hv
    go_enter Tryz.func67, Tryz.ntmps67
    go_wp2_with (first
      | (go_at_call 115; refine HF.out.mono ?_; rintro e w' ⟨rfl, rfl⟩)
      | (go_at_call 50; refine HA.out.mono ?_; rintro e w1 ⟨rfl, d1⟩; have D1 := Lib.hid d1.below; have r1 := (D1.out.cell (p := ⟨s, 2, none⟩) hlt).trans c2; have HS1 := Lib.hid (HSet.out _ D1.out); clear d1 c2)
      | (go_at_call 116; refine HS1.out.mono ?_; rintro e w2 ⟨rfl, h2⟩; have H2 := Lib.hid h2; clear h2))
    go_ret2
    exact ⟨rfl, H2.out⟩
end
end Go.Proofs.YtckcgaliphpgeaaGreatDoor.Os

/-
  What Some does: a contract that the claimed proofs use.
-/
namespace Go.Proofs.YtckcgaliphpgeaaGreatDoor.Os
set_option maxRecDepth 100000
open Go.RowKit
open Ta (sz szs classB classB_iff classB_not sizeOf' slotsOf)
open Bi (sets bt on first setL setB tst hasB u Blk Drawn grown_refl grown_trans grown_below up_alloc up_drew up_trans i64_in ret_i ret_b)

section
variable {w w' w2 : World} {s q g : Nat} {b c : Int} {l l' l2 : List Bool}
theorem Tb.fr (h : Tb w) (f : Fr s g w w') (hs : 1 < s) (hg : 1 < g) : Tb w' := h.drop (B := 2) ⟨f.os, f.tape, f.output, by have := h.lt; have := f.size; omega, fun k hk => f.block k (by have := h.lt; omega) (by omega) (by omega)⟩ (by omega)
theorem Sl.gpos (h : Sl w s q g b c l) : 1 < g := by obtain ⟨ws, hm⟩ := h.bits; exact hm.2.2.2.2.2
theorem Bec.fr (h : Bec s g b c l w w') : Fr s g w w' := by obtain ⟨_, _, _, f, _⟩ := h; exact f
theorem Bec.tb (h : Bec s g b c l w w') (hs : Sl w s q g b c l') (hT : Tb w) : Tb w' := hT.fr h.fr hs.pos hs.gpos
/-- From one to the next. -/
theorem Bec.trans (h : Bec s g b c l w w') (k : ∀ q' g', Sl w' s q' g' b c l → Bec s g' b c l2 w' w2) : Bec s g b c l2 w w2 := by
  obtain ⟨q', g', h1, h2, h3⟩ := h
  obtain ⟨q2, g2, k1, k2, k3⟩ := k q' g' h1
  refine ⟨q2, g2, k1, h2.trans k2 h3, ?_⟩
  rcases k3 with e | e
  · rw [e]; exact h3
  · exact .inr (Nat.le_trans h2.size e)
/-- A list of another kind stays. -/
theorem own_far {v : Value} {xs : List Value} {base n : Nat} {e : TypeId} {sz : Nat} (h : w.ownsRow base e sz v n xs) {i j x y : Nat} (hf : Fr i j w w') (hi : kind w i = x) (hj : kind w j = y) (hx : e ≠ x) (hy : e ≠ y) : w'.ownsRow base e sz v n xs :=
  own_of h fun k hk => by
    obtain ⟨cur, hc⟩ := own_cells h hk
    exact hf.block k (Array.getElem?_eq_some_iff.1 hc).1 (kne (kind_of hc) hi hx) (kne (kind_of hc) hj hy)
/-- How many Some takes. -/
def smM (l : List Bool) (n : Int) : Nat := min n.toNat (fr l)
theorem smM_le (l : List Bool) (n : Int) : smM l n ≤ l.length := Nat.le_trans (Nat.min_le_right _ _) (fr_le l)
end
end Go.Proofs.YtckcgaliphpgeaaGreatDoor.Os

/-
  What GiveAll and Give do: contracts that the claimed proofs use.
-/
namespace Go.Proofs.YtckcgaliphpgeaaGreatDoor.Os
set_option maxRecDepth 100000
open Go.RowKit
open Ta (sz szs classB classB_iff classB_not sizeOf' slotsOf)
open Bi (sets bt on first setL setB tst hasB u Blk Drawn grown_refl grown_trans grown_below up_alloc up_drew up_trans i64_in ret_i ret_b)

section
variable {w w' w2 : World} {s q g : Nat} {b c : Int} {l l' l2 : List Bool}
theorem setB_tst (l : List Bool) (k : Int) : setB l k false = tst l k := by
  unfold setB tst; cases l.getD k.toNat false <;> simp
theorem gv_none {b z : Int} {l : List Bool} {x : Int} (h : slotI l.length b z x < 0) (r : List Int) : gaE b z l (x :: r) = 12 := by
  have e : gvE b z l x = 12 := by unfold gvE gvI; rw [if_pos h]
  rw [gaE, e, if_neg (by decide)]
theorem gv_twice {b z : Int} {l : List Bool} {x : Int} (h : ¬ slotI l.length b z x < 0) (h2 : tst l (slotI l.length b z x) = false) (r : List Int) : gaE b z l (x :: r) = 19 := by
  have e : gvE b z l x = 19 := by unfold gvE gvI; rw [if_neg h, if_pos h2]
  rw [gaE, e, if_neg (by decide)]
theorem gv_ok {b z : Int} {l : List Bool} {x : Int} (h : ¬ slotI l.length b z x < 0) (h2 : tst l (slotI l.length b z x) = true) (r : List Int) : gaE b z l (x :: r) = gaE b z (setL l (slotI l.length b z x) false) r ∧ gaS b z l (x :: r) = gaS b z (setL l (slotI l.length b z x) false) r := by
  have e : gvE b z l x = 0 := by unfold gvE gvI; rw [if_neg h, if_neg (by rw [h2]; simp)]
  have e2 : gvL b z l x = setL l (slotI l.length b z x) false := by unfold gvL; rw [if_pos e]; rfl
  rw [gaE, e, if_pos rfl, gaS, e2]; exact ⟨rfl, rfl⟩
set_option maxHeartbeats 4000000 in
theorem giveAll_any (A : Option Addr) (n cap : Nat) (xs : List Int) (hA : At w.heap.size w A (ints xs)) (hn : xs.length = n) (hn2 : n ≤ 1048576) (hx : ∀ x ∈ xs, I64 x) (h : Sl w s q g b c l) (hT : Tb w) :
    Calls Tryz.prog 103 #[.pointer (some ⟨s, 0, none⟩), .slice A n cap] w fun e w' => e = .returned (.int .i64 (gaE b (sizeOf' c) l xs)) ∧ Bec s g b c (gaL b (sizeOf' c) l xs) w w' := by
  have c2 := h.c2
  have HH := Lib.hid h
  have HT := Lib.hid hT
  obtain ⟨ws, hm⟩ := h.bits
  have HC := Lib.hid (Bi.clone_any q g l ws w hm)
  unfold Bi.Cloned at HC
  have HA := Lib.hid hA
  have HX := Lib.hid hn
  have HI := Lib.hid hx
  clear h hT hm hA hn hx
  go_enter Tryz.func103, Tryz.ntmps103
  go_wp2_with fail
  refine HC.out.mono ?_
  rintro e w1 ⟨Q, G, rfl, hQ, hG, m1, b1⟩
  have M1 := Lib.hid m1
  have B1 := Lib.hid b1
  clear m1 b1 HC c2
  go_wp2_with fail
  go_loopw [17] (fun i wr => ∃ (k : Nat) (lk : List Bool) (wk : List (BitVec 64)), k ≤ n ∧ i = .int .i64 k ∧ Bi.Bits wr Q G lk wk ∧ lk.length = l.length ∧ gaE b (sizeOf' c) l xs = gaE b (sizeOf' c) lk (xs.drop k) ∧ gaS b (sizeOf' c) l xs = gaS b (sizeOf' c) lk (xs.drop k) ∧ Below w.heap.size w wr) (fun i _ => n - (intOf i).toNat)
  case atStart => exact ⟨0, _, _, by omega, rfl, M1.out, rfl, rfl, rfl, B1.out⟩
  case round =>
    obtain ⟨k, lk, wk, hk, rfl, hm, hl, h1, h2, hbel⟩ := hrel
    have HM := Lib.hid hm
    have HLN := Lib.hid hl
    have H1 := Lib.hid h1
    have H2 := Lib.hid h2
    have HB := Lib.hid hbel
    clear hm hl h1 h2 hbel
    by_cases hlt : k < n
    · have hkl : k < xs.length := by rw [HX.out]; exact hlt
      obtain ⟨ab, ao, rfl, _, q0⟩ := (HA.out.below HB.out).int hkl
      have HD : Hid (xs.drop k = xs[k] :: xs.drop (k + 1)) := List.drop_eq_getElem_cons hkl
      have hxi := HI.out _ (List.getElem_mem hkl)
      obtain ⟨x, hx⟩ : ∃ x, xs[k] = x := ⟨_, rfl⟩
      rw [hx] at q0 HD hxi
      have j1 : (0 : Int) ≤ (k : Int) := by omega
      have j2 : (k : Int) < (n : Int) := by omega
      have HSl := Lib.hid (slot_any x hxi (HH.out.below HB.out) (HT.out.below HB.out))
      have HJ : Hid (slotI lk.length b (sizeOf' c) x = slotI l.length b (sizeOf' c) x) := by show _ = _; rw [HLN.out]
      obtain ⟨j, hj⟩ : ∃ j, slotI l.length b (sizeOf' c) x = j := ⟨_, rfl⟩
      rw [hj] at HSl HJ
      clear hx hkl hxi hj
      by_cases hneg : j < 0
      · have hs : sle j = 12 := if_pos hneg
        rw [hs] at HSl
        have HN := Lib.hid hneg
        clear hs hneg
        go_wp2_with (go_at_call 68; refine HSl.out.mono ?_; rintro e w' ⟨rfl, rfl⟩)
        go_ret
        have e : gaE b (sizeOf' c) l xs = 12 := by rw [H1.out, HD.out]; exact gv_none (by rw [HJ.out]; exact HN.out) _
        exact ⟨by rw [e]; rfl, by unfold gaL; rw [if_neg (by rw [e]; decide)]; exact Bec.same HH.out HB.out⟩
      · have hs : sle j = 0 := if_neg hneg
        rw [hs] at HSl
        have HCl := Lib.hid (Bi.clear_any _ _ _ _ j wr HM.out)
        unfold Bi.Turned at HCl
        have HN := Lib.hid hneg
        clear hs hneg
        cases ht : tst lk j with
        | false =>
          have e1 : setB lk j false = false := (setB_tst lk j).trans ht
          rw [e1] at HCl
          have HTs := Lib.hid ht
          clear e1 ht
          go_wp2_with (first
            | (go_at_call 68; refine HSl.out.mono ?_; rintro e w' ⟨rfl, rfl⟩)
            | (go_at_call 141; refine HCl.out.mono ?_; rintro e w2 ⟨rfl, -, g2⟩; have B2 := Lib.hid (Bi.below_grown HB.out g2 HB.out.size hG); clear g2))
          go_ret
          have e : gaE b (sizeOf' c) l xs = 19 := by rw [H1.out, HD.out]; exact gv_twice (by rw [HJ.out]; have := HN.out; omega) (by rw [HJ.out]; exact HTs.out) _
          exact ⟨by rw [e]; rfl, by unfold gaL; rw [if_neg (by rw [e]; decide)]; exact Bec.same HH.out B2.out⟩
        | true =>
          have e1 : setB lk j false = true := (setB_tst lk j).trans ht
          rw [e1] at HCl
          have HTs := Lib.hid ht
          clear e1 ht
          go_wp2_with (first
            | (go_at_call 68; refine HSl.out.mono ?_; rintro e w' ⟨rfl, rfl⟩)
            | (go_at_call 141; refine HCl.out.mono ?_; rintro e w2 ⟨rfl, ⟨wk2, m2⟩, g2⟩; have M2 := Lib.hid m2; have B2 := Lib.hid (Bi.below_grown HB.out g2 HB.out.size hG); clear m2 g2))
          go_roundw
          case rel =>
            obtain ⟨e3, e4⟩ := gv_ok (b := b) (z := sizeOf' c) (l := lk) (x := x) (by rw [HJ.out]; have := HN.out; omega) (by rw [HJ.out]; exact HTs.out) (xs.drop (k + 1))
            rw [HJ.out] at e3 e4
            exact ⟨k + 1, setL lk j false, wk2, by omega, by go_num, M2.out, by rw [Bi.setL_length]; exact HLN.out, by rw [H1.out, HD.out, e3], by rw [H2.out, HD.out, e4], B2.out⟩
          case measure => simp [intOf]; omega
    · obtain rfl : k = n := by omega
      have hD : xs.drop k = [] := List.drop_eq_nil_of_le (by rw [HX.out]; exact Nat.le_refl _)
      have HE : Hid (gaE b (sizeOf' c) l xs = 0 ∧ gaS b (sizeOf' c) l xs = lk) := ⟨by rw [H1.out, hD]; rfl, by rw [H2.out, hD]; rfl⟩
      have hS := HH.out.below HB.out
      have c2 := hS.c2
      have f2 := hS.blk.frozen 2
      clear hD hS
      go_wp2
      go_ret
      obtain ⟨e1, e2⟩ := HE.out
      have hS := HH.out.below HB.out
      have hkd := HM.out
      have hk1 : kind wr Q = 149 := kind_blk hkd.1
      have hk2 : kind wr G = 144 := kind_blk hkd.2.1
      have hgr : wr.grownBy (wr.setCell ⟨s, 2, none⟩ (.pointer (some ⟨Q, 0, none⟩))) (some s) := Bi.grown_set (grown_refl _ _)
      refine ⟨by rw [e1]; rfl, Q, G, ⟨?_, ⟨wk, ?_⟩, HH.out.hb, HH.out.hc, ?_, HH.out.pos⟩, (Fr.of HB.out).trans (Fr.grown1 hgr) (.inl rfl), .inr hG⟩
      · exact hS.blk.set (i := 2) (.pointer (some ⟨Q, 0, none⟩))
      · unfold gaL; rw [if_pos e1, e2]
        exact hkd.far hgr (kne hk1 hS.kinds.1 (by decide)) (kne hk2 hS.kinds.1 (by decide))
      · rw [gaL_len]; exact HH.out.len
theorem gaE_one (b z : Int) (l : List Bool) (x : Int) : gaE b z l [x] = gvE b z l x ∧ gaL b z l [x] = gvL b z l x := by
  have e : gaE b z l [x] = gvE b z l x := by
    rw [gaE]; split
    · rename_i h; rw [h]; rfl
    · rfl
  refine ⟨e, ?_⟩
  unfold gaL
  rw [e]
  split
  · rfl
  · rename_i h; unfold gvL; rw [if_neg h]
theorem give_any (x : Int) (hx : I64 x) (h : Sl w s q g b c l) (hT : Tb w) : Calls Tryz.prog 55 #[.pointer (some ⟨s, 0, none⟩), .int .i64 x] w fun e w' => e = .returned (.int .i64 (gvE b (sizeOf' c) l x)) ∧ Bec s g b c (gvL b (sizeOf' c) l x) w w' := by
  obtain ⟨w1, hw1⟩ : ∃ w1, w.alloc (.cells #[.int .i64 x] 3) = w1 := ⟨_, rfl⟩
  have b1 : Below w.heap.size w w1 := by rw [← hw1]; exact up_alloc (Below.refl _ _) _
  have k1 : Blk w1 w.heap.size [.int .i64 x] 3 := by rw [← hw1]; exact heap_alloc_last w _
  have HG := Lib.hid (giveAll_any (some ⟨w.heap.size, 0, none⟩) 1 1 [x] (w := w1) (fun _ => ⟨w.heap.size, 0, rfl, k1.lt, fun j v hj => by rw [Nat.zero_add]; exact (k1.cell).trans hj⟩) rfl (by omega) (fun y hy => by simp at hy; rw [hy]; exact hx) (h.below b1) (hT.below b1))
  rw [(gaE_one _ _ _ _).1, (gaE_one _ _ _ _).2] at HG
  have HB := Lib.hid b1
  generalize gvE b (sizeOf' c) l x = E at *
  clear h hT k1 b1
  go_enter Tryz.func55, Tryz.ntmps55
  go_wp2_with fail
  refine HG.out.mono ?_
  rintro e w2 ⟨rfl, h2⟩
  have H2 := Lib.hid (Bec.on HB.out h2)
  clear h2
  go_wp2
  go_ret
  exact ⟨rfl, H2.out⟩
end
end Go.Proofs.YtckcgaliphpgeaaGreatDoor.Os
