/-
  A slab that is new to a heap: the contract that the claimed proofs use.
-/
import Derived.Test.YtckcgaliphpgeaaGreatDoorHeReady
namespace Go.Proofs.YtckcgaliphpgeaaGreatDoor.He
set_option maxRecDepth 100000
open Go.RowKit
open Ta (sizeOf' classB)
open Bi (Drawn ret_i ret_b up_alloc up_drew up_trans)
open Ri (of of_nat up up_at up_far)
open Gr (kind kind_of kne)

section
variable {w w' : World} {P : Pl} {σ : St} {bs : List (BitVec 8)}
theorem setG_same (σ : St) (v e : Int) : setG σ ⟨v, e, σ.L, σ.f, σ.t, σ.S⟩ = σ := rfl
theorem open_not {σ : St} {n a v c : Int} (he : (Gr.openO σ.L σ.f σ.t σ.S n a v c).e ≠ 0) : setG σ (Gr.openO σ.L σ.f σ.t σ.S n a v c) = σ := by
  unfold Gr.openO at he ⊢
  unfold setG
  split
  · rename_i h1
    rw [if_pos h1] at he
    split
    · rename_i h2; rw [if_pos h2] at he; exact absurd rfl he
    · rfl
  · rfl
/-- What a call leaves of a heap at which a slab is. -/
def Got (P : Pl) (σ : St) (bs : List (BitVec 8)) (σ' : St) (u : Nat) (e : Ending) (w w' : World) : Prop :=
  ∃ P', e = .returned (.tuple #[.pointer (some ⟨(P'.A u).s, 0, none⟩), .int .i64 0]) ∧ P'.h = P.h ∧ P'.q = P.q ∧ (∀ x, x ≠ u → (P'.A x).s = (P.A x).s) ∧ Hm w' P' σ' bs ∧ Fh P σ.U w w' ∧ Nw w.heap.size P σ.U P' σ'.U
set_option maxHeartbeats 2000000 in
theorem ready_none (h : Hm w P σ bs) (hi : HI σ) {c : Nat} (hc : c < 16) (hp : pick σ.R c = none) (hS : σ.S.length ≤ 1000000000000) : Calls Tryz.prog 66 #[.pointer (some ⟨P.h, 0, none⟩), .int .i64 c] w fun e w' =>
    ((Gr.openO σ.L σ.f σ.t σ.S 4 4 0 c).e ≠ 0 ∧ e = .returned (.tuple #[.pointer none, .int .i64 (Gr.openO σ.L σ.f σ.t σ.S 4 4 0 c).e]) ∧ Left P σ bs σ w w') ∨
    ((Gr.openO σ.L σ.f σ.t σ.S 4 4 0 c).e = 0 ∧ Got P σ bs (newS σ c) (Gr.openO σ.L σ.f σ.t σ.S 4 4 0 c).v.toNat e w w') := by
  have HH := Lib.hid h
  have HI' := Lib.hid hi
  have HSl := Lib.hid hS
  obtain ⟨hn0, hn2⟩ := pick_none hp
  have e0 : decide (0 < (of σ.R (ringI c 0)).length) = false := by
    rw [show ringI (c : Int) 0 = ringI (c : Int) ((0 : Nat) : Int) from rfl, ring_at σ.R hc (by omega), Nat.add_zero, hn0]; rfl
  have e2 : decide (0 < (of σ.R (ringI c 2)).length) = false := by
    rw [show ringI (c : Int) 2 = ringI (c : Int) ((2 : Nat) : Int) from rfl, ring_at σ.R hc (by omega), hn2]; rfl
  have HAs : Hid (∀ (W : World) (j : Int), j = 0 ∨ j = 2 → Hm W P σ bs → Asks 58 #[.pointer (some ⟨P.h, 0, none⟩), .int .i64 c, .int .i64 j] W (.bool false)) := fun W j hj hW => by
    have := has_any hW c j
    rcases hj with rfl | rfl
    · rw [e0] at this; exact this
    · rw [e2] at this; exact this
  obtain ⟨w1, hw1⟩ : ∃ w1, w.alloc (.cells #[.int .i64 0, .int .i64 2] 3) = w1 := ⟨_, rfl⟩
  have b1 : Below w.heap.size w w1 := by rw [← hw1]; exact up_alloc (Below.refl _ _) _
  have k1 : Bi.Blk w1 w.heap.size [.int .i64 0, .int .i64 2] 3 := by rw [← hw1]; exact Gr.Blk.new w _ 3
  have B1 := Lib.hid b1
  have K1 := Lib.hid k1
  have hcl := Lib.hid (Ta.classB_iff.2 (by omega : 0 ≤ (c : Int) ∧ (c : Int) < 16))
  clear h hi hS hp b1 k1 e0 e2 hn0 hn2
  go_enter Tryz.func66, Tryz.ntmps66
  go_wp2_with fail
  clear hw1
  go_loopw [14] (fun i wr => ∃ k : Nat, k ≤ 2 ∧ i = .int .i64 k ∧ Below w1.heap.size w1 wr) (fun i _ => 2 - (intOf i).toNat)
  case atStart => exact ⟨0, by omega, rfl, Below.refl _ _⟩
  case round =>
    obtain ⟨k, hk, rfl, hbel⟩ := hrel
    have HBr := Lib.hid hbel
    have BW := Lib.hid (B1.out.trans (hbel.mono B1.out.size))
    have Hr := Lib.hid (HH.out.below BW.out)
    have q0 : wr.cell? ⟨w.heap.size, 0, none⟩ = some (.int .i64 0) := (K1.out.below hbel).cell
    have q1 : wr.cell? ⟨w.heap.size, 1, none⟩ = some (.int .i64 2) := (K1.out.below hbel).cell
    clear hbel
    by_cases hlt : k < 2
    · obtain ⟨j, hj⟩ : ∃ j : Int, j = (if k = 0 then 0 else 2) := ⟨_, rfl⟩
      have hj2 : j = 0 ∨ j = 2 := by rw [hj]; split <;> simp
      have qj : wr.cell? ⟨w.heap.size, k, none⟩ = some (.int .i64 j) := by
        obtain rfl | rfl : k = 0 ∨ k = 1 := by omega
        · rw [q0, hj]; rfl
        · rw [q1, hj]; rfl
      have HA := Lib.hid (HAs.out wr j hj2 Hr.out)
      have j1 : (0 : Int) ≤ (k : Int) := by omega
      have j2 : (k : Int) < 2 := by omega
      clear q0 q1 hj hj2
      go_wp2_with fail
      refine HA.out.mono ?_
      rintro e w2 ⟨rfl, d2⟩
      have B2 := Lib.hid d2.below
      clear d2 HA qj
      go_wp2_with fail
      go_roundw
      case rel => exact ⟨k + 1, by omega, by go_num, HBr.out.trans (B2.out.mono HBr.out.size)⟩
      case measure => simp [intOf]; omega
    · obtain rfl : k = 2 := by omega
      have c0 := Hr.out.cells.1
      have HO := Lib.hid (Gr.open_any 4 4 0 c Hr.out.gm HSl.out)
      clear q0 q1 HAs K1 hlt
      go_wp2_with fail
      refine HO.out.mono ?_
      rintro e w2 ⟨rfl, hb⟩
      obtain ⟨p', h2, f2, n2⟩ := Hr.out.ground hb
      have H2 := Lib.hid h2
      have F2 := Lib.hid ((Fh.of (P := P) (U := σ.U) BW.out).trans f2 (Nw.refl _ _ _))
      have N2 : Hid (He.Nw w.heap.size P σ.U { P with p := p' } σ.U) := (Nw.refl _ _ _).trans n2 BW.out.size
      by_cases hE : (Gr.openO σ.L σ.f σ.t σ.S 4 4 0 c).e = 0
      · obtain ⟨u, eu, hun, hN4, hm4, _, _, _, _⟩ := HI'.out.g.opened hc hE (l := Os.l0 c) (by simp [Os.l0])
        have hN := Hr.out.hN
        have hEh := Lib.hid hE
        have euh := Lib.hid eu
        have hunh := Lib.hid hun
        rw [hE, eu]
        have hbB : Os.baseB (256 * (u : Int)) = true := Os.baseB_iff.2 (by omega)
        have HNew := Lib.hid (Os.new_yes (b := 256 * (u : Int)) h2.tb hbB hcl.out)
        have wr1 : IntKind.i64.wrap ((u : Int) * 256) = 256 * (u : Int) := by rw [Int.mul_comm]; exact Bi.i64_in _ (by omega) (by omega)
        clear hb h2 f2 n2 hE eu hun HO c0 hbB
        go_wp2_with fail
        refine HNew.out.mono ?_
        rintro e w3 ⟨b3, s, q, g, rfl, sl3, hs3, hg3⟩
        have H3 := Lib.hid (H2.out.below b3)
        have SL3 := Lib.hid sl3
        have F3 := Lib.hid (F2.out.trans (Fh.of (P := { P with p := p' }) (U := σ.U) b3) N2.out)
        have c1 : w3.cell? ⟨P.h, 1, none⟩ = some (.map (some P.b)) := H3.out.cells.2.1
        obtain ⟨w4, hput, m4, g4⟩ := H3.out.mp.put (p := u) (s := s) hN (by show u < σ.N; omega)
        have hf : ∀ x y, σ.U x = some y → (P.A x).s ≠ s ∧ (P.A x).g ≠ g := fun x y hx => by
          obtain ⟨l1, _, l3⟩ := H2.out.sll hx
          exact ⟨by dsimp only at l1; omega, by dsimp only at l3; omega⟩
        have hno : u ∉ σ.O := fun hin => by obtain ⟨y, hy⟩ := HI'.out.l.out u hin; rw [hunh.out] at hy; cases hy
        have M4 := m4.same (m' := mapOf (up σ.U u (some ⟨c, Os.l0 c⟩)) σ.O (up P.A u ⟨s, q, g⟩)) (fun x => by
          unfold mapOf
          by_cases e : x = u
          · subst e; rw [up_at, up_at, M_off hno, up_at]; rfl
          · rw [up_far e, up_far e, M_same (U := σ.U) (O := σ.O) (up_far e) Iff.rfl]; rfl)
        obtain ⟨h4, f4, n4⟩ := H3.out.fresh (B := w2.heap.size) (u := u) (n := ⟨c, Os.l0 c⟩) hunh.out SL3.out hf ⟨hs3, hg3⟩ M4 g4
        have H4 := Lib.hid h4
        have F4 := Lib.hid (F3.out.trans f4 N2.out)
        have N4 := Lib.hid (N2.out.trans n4 F2.out.size)
        have es := up_at P.A u ⟨s, q, g⟩
        have efar : ∀ x, x ≠ u → (up P.A u ⟨s, q, g⟩ x).s = (P.A x).s := fun x hx => by rw [up_far hx]
        have FIN : Hid (Got P σ bs (newS σ c) u (.returned (.tuple #[.pointer (some ⟨s, 0, none⟩), .int .i64 0])) w w4) := by
          have this : newS σ c = setU (setG σ (Gr.openO σ.L σ.f σ.t σ.S 4 4 0 c)) u (some ⟨c, Os.l0 c⟩) := by unfold newS; dsimp only; rw [euh.out, Int.toNat_natCast]
          show Got P σ bs (newS σ c) u _ w w4
          rw [this]
          exact ⟨{ P with p := p', A := up P.A u ⟨s, q, g⟩ }, by dsimp only; rw [es], rfl, rfl, efar, H4.out, F4.out, N4.out⟩
        clear b3 sl3 m4 g4 hf hno M4 h4 f4 n4 es efar HNew H4 F4 N4
        go_wp2_with fail
        go_ret2
        right
        refine ⟨hEh.out, ?_⟩
        rw [euh.out, Int.toNat_natCast]
        exact FIN.out
      · have e1 := open_not hE
        have hv : (Gr.openO σ.L σ.f σ.t σ.S 4 4 0 c).e ≠ 0 := hE
        rw [e1] at h2
        have L2 : Hid (Left P σ bs σ w w2) := ⟨{ P with p := p' }, rfl, rfl, fun _ _ => rfl, h2, F2.out, N2.out⟩
        have hEh := Lib.hid hE
        obtain ⟨E, hEe⟩ : ∃ E, (Gr.openO σ.L σ.f σ.t σ.S 4 4 0 c).e = E := ⟨_, rfl⟩
        obtain ⟨V, hVe⟩ : ∃ V, (Gr.openO σ.L σ.f σ.t σ.S 4 4 0 c).v = V := ⟨_, rfl⟩
        have HEe := Lib.hid hEe
        rw [hEe] at hv
        rw [hEe, hVe]
        have dE : (E != 0) = true := by simpa using hv
        clear hb h2 f2 n2 hE e1 HO c0 hv H2 hEe hVe
        go_wp2_with fail
        go_ret2
        exact .inl ⟨hEh.out, by rw [HEe.out]; rfl, L2.out⟩
end
end Go.Proofs.YtckcgaliphpgeaaGreatDoor.He
