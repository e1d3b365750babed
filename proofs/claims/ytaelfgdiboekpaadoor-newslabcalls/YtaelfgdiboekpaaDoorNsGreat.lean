/-
  Calls that came in, and how many are looked at: a contract that the claimed proofs use.
-/
import Derived.Test.YtaelfgdiboekpaaDoorNsIntsCopy
import Derived.Test.YtaelfgdiboekpaaDoorCeSame
namespace Go.Proofs.YtaelfgdiboekpaaDoor.Ns
set_option maxRecDepth 100000
open Go.RowKit
open Ce (u ldW Mem)
open Bi (Blk Drawn hasB hasB_iff hasB_not up_alloc up_drew up_trans i64_in ret_i ret_b grown_refl grown_trans grown_below)

structure Cl where
  x : Int
  a : Int
  A : Option Addr
  n : Nat
  cap : Nat
  xs : List Int
  B : Option Addr
  m : Nat
  mcap : Nat
  ys : List (BitVec 8)
/-- A list of bytes that came in. -/
def Ib (w : World) (B : Option Addr) (m mcap : Nat) (ys : List (BitVec 8)) : Prop := Ce.BA w.heap.size w B ys ∧ ys.length = m ∧ (B = none → m = 0 ∧ mcap = 0)
theorem Ib.up {w w' : World} {A : Option Addr} {n cap : Nat} {xs : List (BitVec 8)} (h : Ib w A n cap xs) (hb : Below w.heap.size w w') : Ib w' A n cap xs := ⟨(h.1.below hb).more hb.size, h.2⟩
/-- Calls that came in. -/
def CA (w : World) (P : Option Addr) (l : List Cl) : Prop := ∀ j (h : j < l.length), ∃ b o, P = some ⟨b, o, none⟩ ∧ b < w.heap.size ∧
  w.cell? ⟨b, o + j * 4, none⟩ = some (.int .i64 l[j].x) ∧ w.cell? ⟨b, o + j * 4 + 1, none⟩ = some (.int .i64 l[j].a) ∧ w.cell? ⟨b, o + j * 4 + 2, none⟩ = some (.slice l[j].A l[j].n l[j].cap) ∧ w.cell? ⟨b, o + j * 4 + 3, none⟩ = some (.slice l[j].B l[j].m l[j].mcap) ∧
  In w l[j].A l[j].n l[j].cap l[j].xs ∧ I64 l[j].a ∧ Ib w l[j].B l[j].m l[j].mcap l[j].ys
theorem CA.up {w w' : World} {P : Option Addr} {l : List Cl} (h : CA w P l) (hb : Below w.heap.size w w') : CA w' P l := fun j hj => by
  obtain ⟨b, o, e, hl, c0, c1, c2, c3, hi, ha, hy⟩ := h j hj
  have k : ∀ {i : Nat} {v : Value}, w.cell? ⟨b, i, none⟩ = some v → w'.cell? ⟨b, i, none⟩ = some v := fun hv => (hb.cell (p := ⟨b, _, none⟩) hl).trans hv
  exact ⟨b, o, e, Nat.lt_of_lt_of_le hl hb.size, k c0, k c1, k c2, k c3, hi.up hb, ha, hy.up hb⟩
def greatB (z : Int) (l : List Cl) : Bool := decide (6000 < z) || decide (60 < l.length) || l.any fun c => decide (100 < c.n) || decide (2000 < c.m)
section
variable {w w' : World} {P : Option Addr} {l : List Cl}
set_option maxHeartbeats 2000000 in
theorem great_any (z : Int) (m cap : Nat) (hC : CA w P l) (hm : l.length = m) : Calls Tryd.prog 13 #[.int .i64 z, .slice P m cap] w fun e w' => e = .returned (.bool (greatB z l)) ∧ w = w' := by
  have HC := Lib.hid hC
  have HM := Lib.hid hm
  by_cases hz : 6000 < z
  · have dz : decide ((6000 : Int) < z) = true := by simpa using hz
    have HE : Hid (greatB z l = true) := by show _ = _; unfold greatB; rw [dz]; rfl
    clear hC hm hz
    go_enter Tryd.func13, Tryd.ntmps13
    go_wp2_with fail
    go_ret
    exact ⟨ret_b HE.out.symm, rfl⟩
  have dz : decide ((6000 : Int) < z) = false := by simpa using hz
  by_cases h0 : 60 < m
  · have d0 : decide ((60 : Int) < (m : Int)) = true := by simp; omega
    have HE : Hid (greatB z l = true) := by show _ = _; unfold greatB; rw [hm]; simp [h0]
    clear hC hm h0
    go_enter Tryd.func13, Tryd.ntmps13
    go_wp2_with fail
    go_ret
    exact ⟨ret_b HE.out.symm, rfl⟩
  · have d0 : decide ((60 : Int) < (m : Int)) = false := by simp; omega
    have HG : Hid (greatB z l = l.any fun c => decide (100 < c.n) || decide (2000 < c.m)) := by show _ = _; unfold greatB; rw [hm, dz]; simp [h0]
    clear hC hm
    go_enter Tryd.func13, Tryd.ntmps13
    go_wp2_with fail
    go_loop [5] (fun i => ∃ k : Nat, k ≤ m ∧ i = .int .i64 k ∧ ∀ j (h : j < l.length), j < k → l[j].n ≤ 100 ∧ l[j].m ≤ 2000) (fun i => m - (intOf i).toNat)
    case atStart => exact ⟨0, by omega, rfl, fun j _ hj => by omega⟩
    case round =>
      obtain ⟨k, hk, rfl, hno⟩ := hrel
      have HN := Lib.hid hno
      clear hno
      by_cases hlt : k < m
      · have hkl : k < l.length := by rw [HM.out]; exact hlt
        obtain ⟨b, o, rfl, -, -, -, c2, c3, -, -, -⟩ := HC.out k hkl
        have j1 : (0 : Int) ≤ (k : Int) := by omega
        have j2 : (k : Int) < (m : Int) := by omega
        have hlt2 : decide ((k : Int) < (m : Int)) = true := by simpa using hlt
        obtain ⟨cl, hcl⟩ : ∃ cl, l[k] = cl := ⟨_, rfl⟩
        rw [hcl] at c2 c3
        obtain ⟨x, a, A, n, cp, xs, B, mm, mcp, ys⟩ := cl
        dsimp only at c2 c3
        have HCl := Lib.hid hcl
        have HKL := Lib.hid hkl
        clear hcl
        by_cases hn : 100 < n
        · have d1 : decide ((100 : Int) < (n : Int)) = true := by simp; omega
          have HE : Hid (greatB z l = true) := by
            show _ = _
            rw [HG.out, List.any_eq_true]
            exact ⟨_, List.getElem_mem HKL.out, by rw [HCl.out]; simp [hn]⟩
          clear hn
          go_wp2_with fail
          go_ret
          exact ⟨ret_b HE.out.symm, rfl⟩
        · have d1 : decide ((100 : Int) < (n : Int)) = false := by simp; omega
          have HNn := Lib.hid hn
          clear hn
          by_cases hmm : 2000 < mm
          · have d2 : decide ((2000 : Int) < (mm : Int)) = true := by simp; omega
            have HE : Hid (greatB z l = true) := by
              show _ = _
              rw [HG.out, List.any_eq_true]
              exact ⟨_, List.getElem_mem HKL.out, by rw [HCl.out]; simp [hmm]⟩
            clear hmm
            go_wp2_with fail
            go_ret
            exact ⟨ret_b HE.out.symm, rfl⟩
          · have d2 : decide ((2000 : Int) < (mm : Int)) = false := by simp; omega
            have HMm := Lib.hid hmm
            clear hmm
            go_wp2_with fail
            go_round
            case rel => exact ⟨k + 1, by omega, by go_num, fun j h hj => by
              by_cases e : j = k
              · subst e
                rw [HCl.out]
                have := HNn.out
                have := HMm.out
                exact ⟨by show n ≤ 100; omega, by show mm ≤ 2000; omega⟩
              · exact HN.out j h (by omega)⟩
            case measure => simp [intOf]; omega
      · obtain rfl : k = m := by omega
        have hlt2 : decide ((k : Int) < (k : Int)) = false := by simp
        have HE : Hid (greatB z l = false) := by
          show _ = _
          rw [HG.out, List.any_eq_false]
          intro c hc
          obtain ⟨j, hj, rfl⟩ := List.getElem_of_mem hc
          have := HN.out j hj (by rw [← HM.out]; exact hj)
          simp; omega
        go_wp2_with fail
        go_ret
        exact ⟨ret_b HE.out.symm, rfl⟩
theorem great_no {z : Int} (h : greatB z l = false) : z ≤ 6000 ∧ l.length ≤ 60 ∧ ∀ j (hj : j < l.length), l[j].n ≤ 100 ∧ l[j].m ≤ 2000 := by
  unfold greatB at h
  rw [Bool.or_eq_false_iff, Bool.or_eq_false_iff] at h
  refine ⟨by simpa using h.1.1, by simpa using h.1.2, fun j hj => ?_⟩
  have := List.any_eq_false.1 h.2 l[j] (List.getElem_mem hj)
  simp at this
  exact this
end
end Go.Proofs.YtaelfgdiboekpaaDoor.Ns
