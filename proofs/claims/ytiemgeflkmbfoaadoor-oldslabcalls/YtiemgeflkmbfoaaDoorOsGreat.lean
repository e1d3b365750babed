/-
  Calls that came in, and how many are looked at: a contract that the claimed proof uses.
-/
import Derived.Test.YtiemgeflkmbfoaaDoorOsMany
namespace Go.Proofs.YtiemgeflkmbfoaaDoor.Os
set_option maxRecDepth 100000
open Go.RowKit
open Ta (sz szs classB classB_iff classB_not sizeOf' slotsOf)
open Bi (sets bt on first setL setB tst hasB u Blk Drawn grown_refl grown_trans grown_below up_alloc up_drew up_trans i64_in ret_i ret_b brow)

structure Cl where
  x : Int
  a : Int
  A : Option Addr
  n : Nat
  cap : Nat
  xs : List Int
/-- Calls that came in. -/
def CA (w : World) (P : Option Addr) (l : List Cl) : Prop := ∀ j (h : j < l.length), ∃ b o, P = some ⟨b, o, none⟩ ∧ b < w.heap.size ∧
  w.cell? ⟨b, o + j * 3, none⟩ = some (.int .i64 l[j].x) ∧ w.cell? ⟨b, o + j * 3 + 1, none⟩ = some (.int .i64 l[j].a) ∧ w.cell? ⟨b, o + j * 3 + 2, none⟩ = some (.slice l[j].A l[j].n l[j].cap) ∧
  In w l[j].A l[j].n l[j].cap l[j].xs ∧ I64 l[j].a
theorem CA.up {w w' : World} {P : Option Addr} {l : List Cl} (h : CA w P l) (hb : Below w.heap.size w w') : CA w' P l := fun j hj => by
  obtain ⟨b, o, e, hl, c0, c1, c2, hi, ha⟩ := h j hj
  have k : ∀ {i : Nat} {v : Value}, w.cell? ⟨b, i, none⟩ = some v → w'.cell? ⟨b, i, none⟩ = some v := fun hv => (hb.cell (p := ⟨b, _, none⟩) hl).trans hv
  exact ⟨b, o, e, Nat.lt_of_lt_of_le hl hb.size, k c0, k c1, k c2, hi.up hb, ha⟩
def greatB (l : List Cl) : Bool := decide (200 < l.length) || l.any fun c => decide (200 < c.n)
section
variable {w w' : World} {P : Option Addr} {l : List Cl}
set_option maxHeartbeats 1000000 in
theorem great_any (m cap : Nat) (hC : CA w P l) (hm : l.length = m) : Calls Tryd.prog 8 #[.slice P m cap] w fun e w' => e = .returned (.bool (greatB l)) ∧ w = w' := by
  have HC := Lib.hid hC
  have HM := Lib.hid hm
  by_cases h0 : 200 < m
  · have d0 : decide ((200 : Int) < (m : Int)) = true := by simp; omega
    have HE : Hid (greatB l = true) := by show _ = _; unfold greatB; rw [hm]; simp [h0]
    clear hC hm h0
    go_enter Tryd.func8, Tryd.ntmps8
    go_wp2_with fail
    go_ret
    exact ⟨ret_b HE.out.symm, rfl⟩
  · have d0 : decide ((200 : Int) < (m : Int)) = false := by simp; omega
    have HG : Hid (greatB l = l.any fun c => decide (200 < c.n)) := by show _ = _; unfold greatB; rw [hm]; simp [h0]
    clear hC hm
    go_enter Tryd.func8, Tryd.ntmps8
    go_wp2_with fail
    go_loop [3] (fun i => ∃ k : Nat, k ≤ m ∧ i = .int .i64 k ∧ ∀ j (h : j < l.length), j < k → l[j].n ≤ 200) (fun i => m - (intOf i).toNat)
    case atStart => exact ⟨0, by omega, rfl, fun j _ hj => by omega⟩
    case round =>
      obtain ⟨k, hk, rfl, hno⟩ := hrel
      have HN := Lib.hid hno
      clear hno
      by_cases hlt : k < m
      · have hkl : k < l.length := by rw [HM.out]; exact hlt
        obtain ⟨b, o, rfl, -, -, -, c2, -, -⟩ := HC.out k hkl
        have j1 : (0 : Int) ≤ (k : Int) := by omega
        have j2 : (k : Int) < (m : Int) := by omega
        have hlt2 : decide ((k : Int) < (m : Int)) = true := by simpa using hlt
        obtain ⟨cl, hcl⟩ : ∃ cl, l[k] = cl := ⟨_, rfl⟩
        rw [hcl] at c2
        obtain ⟨x, a, A, n, cp, xs⟩ := cl
        dsimp only at c2
        have HCl := Lib.hid hcl
        have HKL := Lib.hid hkl
        clear hcl
        by_cases hn : 200 < n
        · have d1 : decide ((200 : Int) < (n : Int)) = true := by simp; omega
          have HE : Hid (greatB l = true) := by
            show _ = _
            rw [HG.out, List.any_eq_true]
            exact ⟨_, List.getElem_mem HKL.out, by rw [HCl.out]; simpa using hn⟩
          clear hn
          go_wp2_with fail
          go_ret
          exact ⟨ret_b HE.out.symm, rfl⟩
        · have d1 : decide ((200 : Int) < (n : Int)) = false := by simp; omega
          have HNn := Lib.hid hn
          clear hn
          go_wp2_with fail
          go_round
          case rel => exact ⟨k + 1, by omega, by go_num, fun j h hj => by
            by_cases e : j = k
            · subst e; rw [HCl.out]; have := HNn.out; show n ≤ 200; omega
            · exact HN.out j h (by omega)⟩
          case measure => simp [intOf]; omega
      · obtain rfl : k = m := by omega
        have hlt2 : decide ((k : Int) < (k : Int)) = false := by simp
        have HE : Hid (greatB l = false) := by
          show _ = _
          rw [HG.out, List.any_eq_false]
          intro c hc
          obtain ⟨j, hj, rfl⟩ := List.getElem_of_mem hc
          have := HN.out j hj (by rw [← HM.out]; exact hj)
          simp; omega
        go_wp2_with fail
        go_ret
        exact ⟨ret_b HE.out.symm, rfl⟩
theorem great_no (h : greatB l = false) : l.length ≤ 200 ∧ ∀ j (hj : j < l.length), l[j].n ≤ 200 := by
  unfold greatB at h
  rw [Bool.or_eq_false_iff] at h
  refine ⟨by simpa using h.1, fun j hj => ?_⟩
  have := List.any_eq_false.1 h.2 l[j] (List.getElem_mem hj)
  simpa using this
end
end Go.Proofs.YtiemgeflkmbfoaaDoor.Os
