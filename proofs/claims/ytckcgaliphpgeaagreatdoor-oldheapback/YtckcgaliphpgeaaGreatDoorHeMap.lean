/-
  A map from pages to slabs in memory: laws that the claimed proofs use.
-/
import Derived.Test.YtckcgaliphpgeaaGreatDoorHeA
import Derived.Test.YtckcgaliphpgeaaGreatDoorHeLay
import Derived.Maps.OwnSet
import Derived.Maps.OwnOps
import Derived.Maps.Ext
import Derived.Lib.SlKeysI
namespace Go.Proofs.YtckcgaliphpgeaaGreatDoor.He
set_option maxRecDepth 100000
open Go.RowKit Go.Maps Go.Sort

abbrev DU := DataW Unit
def ky (x : Int) : Lit := .int .i64 x
def vz (x : Int) : DU := .lit (.int .i64 x)
/-- A slab's block, or none. -/
def pV : Option Nat → Value
  | some s => .pointer (some ⟨s, 0, none⟩)
  | none => .pointer none
def pI : Option Nat → Int
  | some s => s
  | none => -1
def tE : Value → Option (DU × List MemPlace)
  | .pointer (some ⟨s, 0, none⟩) => some (vz s, [])
  | .pointer none => some (vz (-1), [])
  | _ => none
theorem tE_mk (o : Option Nat) : tE (pV o) = some (vz (pI o), []) := by cases o <;> rfl
theorem tE_inv {v : Value} {y : DU × List MemPlace} (h : tE v = some y) : ∃ o, v = pV o ∧ y.1 = vz (pI o) := by
  unfold tE at h
  split at h
  · rename_i s; cases h; exact ⟨some s, rfl, rfl⟩
  · cases h; exact ⟨none, rfl, rfl⟩
  · cases h
theorem pI_inj {a b : Option Nat} (h : pI a = pI b) : a = b := by
  cases a <;> cases b <;> simp only [pI] at h
  · rfl
  · omega
  · omega
  · congr 1; omega
theorem vz_inj {a b : Int} (h : vz a = vz b) : a = b := by unfold vz at h; injection h with h; injection h
theorem law3 : Keyed Tryz.prog 3 := int_keyed Tryz.underlying3
theorem zero41 (w : World) : (zeroValue 41).run Tryz.prog w = .ok (pV none) w := by kernel_rfl
theorem ky_ne {x y : Int} (h : x ≠ y) : ky x ≠ ky y := fun e => h (by unfold ky at e; injection e)
theorem ky_lit (x : Int) : WideAt.IsKeyLit (ky x) := by unfold ky; simp [WideAt.IsKeyLit]
def I64 (n : Int) : Prop := -9223372036854775808 ≤ n ∧ n ≤ 9223372036854775807
theorem wf_of {x : Int} (h : I64 x) : (Lit.int .i64 x).wf = true := by
  unfold Lit.wf I64 at *
  simp [IntKind.min, IntKind.max, IntKind.signed, IntKind.bits]
  omega
theorem key_of {x : Int} (h : I64 x) : keyOf Tryz.prog 3 (.int .i64 x) = some (ky x) := keyOf_int_mk Tryz.underlying3 (wf_of h)
/-- What the map has at a number. -/
def mI (m : Nat → Option Nat) (x : Int) : Option Nat := if 0 ≤ x then m x.toNat else none
theorem mI_nat (m : Nat → Option Nat) (p : Nat) : mI m p = m p := by unfold mI; rw [if_pos (by omega), Int.toNat_natCast]
/-- This map's entries are these slabs. -/
structure Dt (D : DU) (m : Nat → Option Nat) : Prop where
  has : ∀ x, Maps.has D (ky x) = (mI m x).isSome
  val : ∀ x s, mI m x = some s → ∀ z, D.atKey (ky x) z = vz s
/-- Block b is the map of these slabs. -/
structure Mp (w : World) (b N : Nat) (m : Nat → Option Nat) : Prop where
  own : ∃ (D : DU) (n : Nat), w.ownsMap Tryz.prog 3 tE b n D ∧ Dt D m
  dom : ∀ p s, m p = some s → p < N
section
variable {w w' : World} {b N : Nat} {m : Nat → Option Nat}
theorem owns_of {n : Nat} {D : DU} (h : w.ownsMap Tryz.prog 3 tE b n D) (e : w'.heap[b]? = w.heap[b]?) : w'.ownsMap Tryz.prog 3 tE b n D := by
  obtain ⟨es, clock, hb, r⟩ := h
  exact ⟨es, clock, e.trans hb, r⟩
theorem owns_fit {n : Nat} {D : DU} (h : w.ownsMap Tryz.prog 3 tE b n D) : w.ownsMap Tryz.prog 3 tE b (Maps.size D) D := by
  obtain ⟨es, clock, hb, F, hs, rfl⟩ := h
  exact ⟨es, clock, hb, F, by simp [Maps.size, length_sorted], rfl⟩
theorem Mp.of (h : Mp w b N m) (e : w'.heap[b]? = w.heap[b]?) : Mp w' b N m := by
  obtain ⟨⟨D, n, ho, r⟩, hd⟩ := h; exact ⟨⟨D, n, owns_of ho e, r⟩, hd⟩
theorem Mp.lt (h : Mp w b N m) : b < w.heap.size := by obtain ⟨_, _, ho, _⟩ := h.own; exact ho.lt
theorem Mp.below (h : Mp w b N m) (hb : Below w.heap.size w w') : Mp w' b N m := h.of (hb.block b h.lt)
theorem Mp.kind (h : Mp w b N m) : Gr.kind w b = 0 := by
  obtain ⟨_, _, ⟨es, clock, hb, _⟩, _⟩ := h.own
  unfold Gr.kind; rw [hb]
theorem Mp.same {m' : Nat → Option Nat} (h : Mp w b N m) (e : ∀ p, m' p = m p) : Mp w b N m' := by rw [show m' = m from funext e]; exact h
theorem Mp.made (w : World) (N : Nat) : Mp (w.alloc (.map #[] 0)) w.heap.size N (fun _ => none) :=
  ⟨⟨.map [], 0, World.ownsMap_made w _ _ _, ⟨fun x => by unfold mI; split <;> rfl, fun x s h => by unfold mI at h; split at h <;> cases h⟩⟩, fun _ _ h => by cases h⟩
/-- The keys, each once, rising. -/
def keysOf (N : Nat) (m : Nat → Option Nat) : List Nat := (List.range N).filter fun p => (m p).isSome
theorem mem_keys (hd : ∀ p s, m p = some s → p < N) {p : Nat} : p ∈ keysOf N m ↔ (m p).isSome = true := by
  unfold keysOf
  rw [List.mem_filter, List.mem_range]
  refine ⟨fun h => h.2, fun h => ⟨?_, h⟩⟩
  obtain ⟨s, hs⟩ := Option.isSome_iff_exists.1 h
  exact hd p s hs
theorem range_sorted : ∀ n, (List.range n).Pairwise (· < ·) := fun n => List.pairwise_lt_range
theorem keys_sorted (N : Nat) (m : Nat → Option Nat) : (keysOf N m).Pairwise (· < ·) := (range_sorted N).sublist List.filter_sublist
theorem pw_nodup : ∀ {l : List Nat}, l.Pairwise (· < ·) → l.Nodup
  | [], _ => List.nodup_nil
  | a :: l, h => by
    rw [List.pairwise_cons] at h
    rw [List.nodup_cons]
    exact ⟨fun hm => Nat.lt_irrefl _ (h.1 a hm), pw_nodup h.2⟩
theorem keys_nodup (N : Nat) (m : Nat → Option Nat) : (keysOf N m).Nodup := pw_nodup (keys_sorted N m)
theorem keys_len (N : Nat) (m : Nat → Option Nat) : (keysOf N m).length ≤ N := by
  have := List.length_filter_le (fun p => (m p).isSome) (List.range N)
  rw [List.length_range] at this
  exact this
def nats (xs : List Nat) : List Int := xs.map fun (x : Nat) => (x : Int)
theorem keys_perm {D : DU} {n : Nat} (ho : w.ownsMap Tryz.prog 3 tE b n D) (hD : Dt D m) (hd : ∀ p s, m p = some s → p < N) : (nats (keysOf N m)).Perm (intKeys D) := by
  refine CollectedI.perm (left := fun _ => false) ⟨?_, fun x => ?_⟩ ho law3 Tryz.underlying3 (fun _ => rfl)
  · unfold nats
    exact List.Pairwise.map _ (fun a b h => by intro e; exact h (by omega)) (keys_nodup N m)
  · have := hD.has x
    unfold ky at this
    rw [this]
    unfold nats
    rw [List.mem_map]
    constructor
    · rintro ⟨p, hp, rfl⟩
      rw [mI_nat]
      exact ⟨(mem_keys hd).1 hp, rfl⟩
    · rintro ⟨h1, _⟩
      unfold mI at h1
      split at h1
      · exact ⟨x.toNat, (mem_keys hd).2 h1, by omega⟩
      · cases h1
theorem size_keys {D : DU} {n : Nat} (ho : w.ownsMap Tryz.prog 3 tE b n D) : Maps.size D = (intKeys D).length := by
  obtain ⟨es, clock, hb, F, hs, rfl⟩ := ho
  simp [Maps.size, intKeys]
theorem Mp.some_ (h : Mp w b N m) : ∃ D, w.ownsMap Tryz.prog 3 tE b (Maps.size D) D ∧ Dt D m ∧ Maps.size D ≤ N ∧ (nats (keysOf N m)).Perm (intKeys D) := by
  obtain ⟨⟨D, n, ho, hD⟩, hd⟩ := h
  have hp := keys_perm ho hD hd
  refine ⟨D, owns_fit ho, hD, ?_, hp⟩
  rw [size_keys ho, ← hp.length_eq]
  unfold nats
  rw [List.length_map]
  exact keys_len N m
theorem at_of {D : DU} (hD : Dt D m) (x : Int) : D.atKey (ky x) (vz (-1)) = vz (pI (mI m x)) := by
  cases hm : mI m x with
  | some s => rw [hD.val x s hm]; rfl
  | none =>
    have := hD.has x
    rw [hm] at this
    rw [atKey_of_not_has this]; rfl
theorem Mp.look (h : Mp w b N m) {x : Int} (hx : I64 x) : (Instr.lookup 79 (.map (some b)) (.int .i64 x) true).run Tryz.prog w = .ok (.tuple #[pV (mI m x), .bool (mI m x).isSome]) w := by
  obtain ⟨D, ho, hD, _, _⟩ := h.some_
  obtain ⟨v, ps, hrun, hv⟩ := ho.look_ok law3 Tryz.underlying79 (zero41 w) (tE_mk none) (key_of hx)
  rw [hrun, hD.has]
  obtain ⟨o, rfl, e⟩ := tE_inv hv
  rw [show vz (pI none) = vz (-1) from rfl, at_of hD] at e
  rw [pI_inj (vz_inj e)]
theorem Mp.look1 (h : Mp w b N m) {x : Int} (hx : I64 x) : (Instr.lookup 79 (.map (some b)) (.int .i64 x) false).run Tryz.prog w = .ok (pV (mI m x)) w := by
  obtain ⟨D, ho, hD, _, _⟩ := h.some_
  obtain ⟨v, ps, hrun, hv⟩ := ho.lookup law3 Tryz.underlying79 (zero41 w) (tE_mk none) (key_of hx)
  rw [hrun]
  obtain ⟨o, rfl, e⟩ := tE_inv hv
  rw [show vz (pI none) = vz (-1) from rfl, at_of hD] at e
  rw [pI_inj (vz_inj e)]
theorem mI_up {o : Option Nat} {p : Nat} (x : Int) : mI (Ri.up m p o) x = if x = p then o else mI m x := by
  by_cases e : x = p
  · subst e; rw [mI_nat, if_pos rfl, Ri.up_at]
  · rw [if_neg e]
    unfold mI
    split
    · rw [Ri.up_far (by omega)]
    · rfl
theorem Mp.put (h : Mp w b N m) (hN : N ≤ 4096) {p s : Nat} (hp : p < N) :
    ∃ w', (Instr.mapUpdate 79 (.map (some b)) (.int .i64 p) (.pointer (some ⟨s, 0, none⟩))).run Tryz.prog w = .ok () w' ∧ Mp w' b N (Ri.up m p (some s)) ∧ w.grownBy w' (some b) := by
  obtain ⟨D, ho, hD, hle, _⟩ := h.some_
  have hx : I64 (p : Int) := by unfold I64; omega
  obtain ⟨w', hrun, ho', hg⟩ := ho.update law3 Tryz.underlying79 (by simp only [maxLen]; omega) (key_of hx) (tE_mk (some s))
  refine ⟨w', hrun, ⟨⟨_, _, ho', ⟨fun x => ?_, fun x s' hs z => ?_⟩⟩, fun q s' hq => ?_⟩, hg⟩
  · rw [mI_up]
    by_cases e : x = p
    · subst e; rw [if_pos rfl, has_put_same ho.isMap (ky_lit _)]; rfl
    · rw [if_neg e, has_put_other (ky_ne e), hD.has]
  · rw [mI_up] at hs
    by_cases e : x = p
    · subst e; rw [if_pos rfl] at hs; cases hs; rw [atKey_put_same ho.isMap (ky_lit _)]; rfl
    · rw [if_neg e] at hs; rw [atKey_put_other (ky_ne e), hD.val x s' hs]
  · by_cases e : q = p
    · subst e; exact hp
    · rw [Ri.up_far e] at hq; exact h.dom q s' hq
theorem Mp.drop (h : Mp w b N m) {p : Nat} (hp : p < N) (hN : N ≤ 4096) :
    ∃ w', (∀ ty, (Builtin.delete_ #[79, 3] ty #[.map (some b), .int .i64 p]).run Tryz.prog w = .ok (.tuple #[]) w') ∧ Mp w' b N (Ri.up m p none) ∧ w.grownBy w' (some b) := by
  obtain ⟨D, ho, hD, hle, _⟩ := h.some_
  have hx : I64 (p : Int) := by unfold I64; omega
  obtain ⟨w', hrun, ho', ht⟩ := ho.drop law3 Tryz.underlying79 (key_of hx) 0
  refine ⟨w', fun _ => hrun, ⟨⟨_, _, ho', ⟨fun x => ?_, fun x s' hs z => ?_⟩⟩, fun q s' hq => ?_⟩, ht.grown⟩
  · rw [mI_up]
    by_cases e : x = p
    · subst e; rw [if_pos rfl, has_del_same]; rfl
    · rw [if_neg e, has_del_other (ky_ne e), hD.has]
  · rw [mI_up] at hs
    by_cases e : x = p
    · subst e; rw [if_pos rfl] at hs; cases hs
    · rw [if_neg e] at hs; rw [atKey_del_other (ky_ne e), hD.val x s' hs]
  · by_cases e : q = p
    · subst e; exact hp
    · rw [Ri.up_far e] at hq; exact h.dom q s' hq
end
end Go.Proofs.YtckcgaliphpgeaaGreatDoor.He
