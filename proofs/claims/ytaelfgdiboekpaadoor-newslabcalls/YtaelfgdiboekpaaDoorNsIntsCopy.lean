/-
  Lists of numbers that came in, and a copy of one: contracts that the claimed proofs use.
-/
import Derived.Test.YtaelfgdiboekpaaDoorNsEnv
import Derived.Laws.AppendOwnNone
namespace Go.Proofs.YtaelfgdiboekpaaDoor.Ns
set_option maxRecDepth 100000
open Go.RowKit
open Ce (u ldW Mem)
open Bi (Blk Drawn hasB hasB_iff hasB_not up_alloc up_drew up_trans i64_in ret_i ret_b grown_refl grown_trans grown_below)

/-- A list of numbers that came in: of its address something is said only where there is an element. -/
def In (w : World) (A : Option Addr) (n cap : Nat) (xs : List Int) : Prop := At w.heap.size w A (ints xs) ∧ xs.length = n ∧ (A = none → n = 0 ∧ cap = 0) ∧ ∀ x ∈ xs, I64 x
theorem In.up {w w' : World} {A : Option Addr} {n cap : Nat} {xs : List Int} (h : In w A n cap xs) (hb : Below w.heap.size w w') : In w' A n cap xs := ⟨h.1.up hb, h.2⟩
/-- ... and it lies below a block. -/
theorem In.down {w w' : World} {A : Option Addr} {n cap : Nat} {xs : List Int} {B : Nat} (h : In w A n cap xs) (hB : B = w.heap.size) (hb : Below B w w') : In w' A n cap xs := by
  subst hB; exact h.up hb
theorem int_info : (Tryd.prog.info? 3).map (fun i => (i.zero, i.size, i.bytes)) = some (some (.int .i64 0), 1, 8) := by kernel_rfl
theorem ints_one (xs : List Int) : ∀ v ∈ ints xs, v.oneCell' = true := by
  intro v hv
  unfold ints at hv
  obtain ⟨x, _, rfl⟩ := List.mem_map.1 hv
  rfl
theorem append_ints {W : World} {ops : Array Oper} {rest : List Oper} {o : Oper} {a : Act} {Q : Exit → Act → World → Prop} (hgd : o.guard = none) (s x : Operand)
    (ho : o.op = .call { callee := .builtin .append, args := #[s, x], argTypes := #[30, 30] }) (base : Nat) {v : Value} {n m c : Nat} (xs cs : List Int) (sp : Option Addr)
    (hs : a.eval s = v) (hown : W.ownsRow base 3 1 v n (ints xs))
    (hx : a.eval x = .slice sp m c) (hm : cs.length = m) (hsp : sp = none → m = 0 ∧ c = 0) (hba : At W.heap.size W sp (ints cs)) (hl : n + m ≤ 4194304) (hbase : base ≤ W.heap.size)
    (h : ∀ v' w', Hid (w'.ownsRow base 3 1 v' (n + m) (ints (xs ++ cs))) → Hid (Below base W w') →
      wpList Tryd.prog ops Q rest (a.put o.dst v') w') : wpList Tryd.prog ops Q (o :: rest) a W := by
  obtain ⟨i0, hi0, hz0, hz1, hz2⟩ := info_parts int_info
  cases sp with
  | none =>
    obtain ⟨rfl, rfl⟩ := hsp rfl
    obtain rfl : cs = [] := List.eq_nil_of_length_eq_zero hm
    refine wpList_append_own_none hgd s x 30 ho base 3 i0 1 Tryd.underlying30 hi0 v n (ints xs) hs hown hx ?_
    exact h v W (by show World.ownsRow _ _ _ _ _ _ _; rw [List.append_nil]; exact hown) (Below.refl _ _)
  | some ad =>
    refine wpList_append_own W hgd s x 30 ho base 3 i0 _ 1 8 Tryd.underlying30 hi0 hz0 hz1 hz2 rfl (by omega) v n (ints xs) hs hown ad m c (ints cs) hx (by rw [ints_len, hm, Nat.mul_one]) ?_ (ints_one cs) (by simp only [maxLen]; omega) (by omega) hbase ?_
    · intro j v hv
      have hp : 0 < (ints cs).length := by
        have := (List.getElem?_eq_some_iff.1 hv).1; omega
      obtain ⟨b, o', e, _, hc⟩ := hba hp
      cases e
      have e : (⟨b, o', none⟩ : Addr).add j = ⟨b, o' + j, none⟩ := by unfold Addr.add; split <;> simp_all
      rw [e]; exact hc j v hv
    · intro v' w' h2 h3 h4
      refine h v' w' ?_ ((Below.refl _ W).grown h3 hbase (fun j e => (hown.lt j e).1))
      show World.ownsRow _ _ _ _ _ _ _
      have e : ints (xs ++ cs) = ints xs ++ ints cs := by simp [ints]
      rw [e]; exact h2
theorem copyInts_any {w : World} {A : Option Addr} {n cap : Nat} {xs : List Int} (h : In w A n cap xs) (hn : n ≤ 1048576) : Calls Tryd.prog 16 #[.slice A n cap] w fun e w' => ∃ A' cap', e = .returned (.slice A' n cap') ∧ Li w' A' xs ∧ Below w.heap.size w w' := by
  have OE : (w.alloc (.cells #[] 3)).ownsRow w.heap.size 3 1 (.slice (some ⟨w.heap.size, 0, none⟩) 0 0) 0 (ints []) :=
    ⟨rfl, .inr ⟨w.heap.size, 0, #[], rfl, Nat.le_refl _, heap_alloc_new w _, Nat.le_refl _, by decide, rfl, rfl⟩⟩
  have HO := Lib.hid OE
  have HB := Lib.hid (up_alloc (Below.refl w.heap.size w) (.cells #[] 3))
  have HA := Lib.hid (h.up HB.out).1
  have HN := Lib.hid h.2.1
  have HZ := Lib.hid h.2.2.1
  clear OE h
  go_enter Tryd.func16, Tryd.ntmps16
  go_wp2_with (at_builtin; refine append_ints rfl _ _ rfl w.heap.size [] xs A rfl HO.out rfl HN.out HZ.out HA.out (by omega) (by rw [World.size_alloc]; omega) ?_; intro v' w' hov hbv)
  have ho := hov.out
  rw [Nat.zero_add, List.nil_append] at ho
  obtain ⟨A', c', rfl⟩ := own_form ho
  have HOv := Lib.hid (own_li ho)
  have HBv := Lib.hid (HB.out.trans hbv.out)
  clear hov hbv ho
  go_wp2
  go_ret
  exact ⟨A', c', rfl, HOv.out, HBv.out⟩
end Go.Proofs.YtaelfgdiboekpaaDoor.Ns
