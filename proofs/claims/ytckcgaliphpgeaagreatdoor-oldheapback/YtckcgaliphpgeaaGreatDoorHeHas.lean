/-
  Is a slot taken? The contract that the claimed proofs use.
-/
import Derived.Test.YtckcgaliphpgeaaGreatDoorHeTold
namespace Go.Proofs.YtckcgaliphpgeaaGreatDoor.He
set_option maxRecDepth 100000
open Go.RowKit
open Ta (sizeOf' classB)
open Bi (Drawn ret_i ret_b up_alloc up_drew up_trans tst sets)
open Ri (of of_nat up up_at up_far)
open Gr (kind kind_of kne)

section
variable {w w' : World} {P : Pl} {σ : St} {bs : List (BitVec 8)}
def hasO (σ : St) (x : Int) : Bool := match around σ x with
  | none => false
  | some p => match σ.U p with
    | some s => tst s.l (Os.slotI s.l.length (256 * p) (sizeOf' s.c) x)
    | none => false
theorem tst_neg {l : List Bool} {k : Int} (h : k < 0) : tst l k = false := by unfold tst Bi.hasB; rw [decide_eq_false (by omega)]; rfl
theorem tst_mem {l : List Bool} {k : Int} (h : 0 ≤ k) : decide (k ∈ Os.nats (sets l)) = tst l k := by
  obtain ⟨j, rfl⟩ : ∃ j : Nat, k = j := ⟨k.toNat, by omega⟩
  rw [Bi.tst_nat, Bool.eq_iff_iff, decide_eq_true_eq]
  unfold Os.nats sets
  rw [List.mem_map]
  constructor
  · rintro ⟨a, ha, e⟩
    obtain rfl : a = j := by omega
    exact (Bi.mem_on.1 ha).2
  · intro hj
    refine ⟨j, Bi.mem_on.2 ⟨?_, hj⟩, rfl⟩
    by_cases hh : j < l.length
    · exact hh
    · rw [List.getD_eq_getElem?_getD, List.getElem?_eq_none (by omega)] at hj; cases hj
set_option maxHeartbeats 4000000 in
theorem has_is (h : Hm w P σ bs) (hi : HI σ) (x : Int) (hx : Os.I64 x) : Calls Tryz.prog 21 #[.pointer (some ⟨P.h, 0, none⟩), .int .i64 x] w fun e w' => e = .returned (.bool (hasO σ x)) ∧ Below w.heap.size w w' := by
  have HF := Lib.hid (find_any h hi x hx)
  have HH := Lib.hid h
  unfold hasO
  unfold findO at HF
  have bad : ∀ z : Bool, z = false → Calls Tryz.prog 30 #[.pointer (some ⟨P.h, 0, none⟩), .int .i64 x] w (fun e w' => e = .returned (.tuple #[.agg #[.int .i64 0, .int .i64 0], .int .i64 12]) ∧ Below w.heap.size w w') → Calls Tryz.prog 21 #[.pointer (some ⟨P.h, 0, none⟩), .int .i64 x] w fun e w' => e = .returned (.bool z) ∧ Below w.heap.size w w' := by
    intro z hz HF
    subst hz
    have HF := Lib.hid HF
    clear h hi hx HH
    go_enter Tryz.func21, Tryz.ntmps21
    go_wp2_with fail
    refine HF.out.mono ?_
    rintro e w1 ⟨rfl, b1⟩
    have B2 := Lib.hid (up_alloc b1 (.cells #[.int .i64 0, .int .i64 0] 59))
    clear b1 HF
    go_wp2_with fail
    go_quiet (fail)
    go_wp2_with fail
    go_ret
    exact ⟨rfl, up_drew B2.out _⟩
  cases ha : around σ x with
  | none =>
    rw [ha] at HF
    exact bad false rfl HF.out
  | some p =>
    obtain ⟨s, hM, _, _⟩ := around_some ha
    obtain ⟨hu, hO⟩ := hi.u hM
    have hr := hi.reg hM
    rw [ha] at HF
    dsimp only at HF ⊢
    rw [hu] at HF ⊢
    dsimp only at HF ⊢
    obtain ⟨k, hk⟩ : ∃ k, Os.slotI s.l.length (256 * p) (sizeOf' s.c) x = k := ⟨_, rfl⟩
    rw [hk] at HF ⊢
    by_cases hk0 : k < 0
    · rw [if_pos hk0] at HF
      exact bad _ (tst_neg hk0) HF.out
    · rw [if_neg hk0] at HF
      rw [← tst_mem (by omega)]
      have HM : Hid (mI (mapOf σ.U σ.O P.A) (p : Int) = some (P.A p).s) := by
        show _ = _
        rw [mI_nat]; unfold mapOf
        rw [show M σ.U σ.O p = some s from hM]; rfl
      have HI64 : Hid (I64 (p : Int)) := by
        show I64 _
        have := h.hN
        have := hr.1
        unfold I64; omega
      have HTk := Lib.hid (fun (W : World) (hW : Hm W P σ bs) => Os.taken_any (hW.sl p s hu) hW.tb)
      have hlen : (Os.nats (sets s.l)).length ≤ 4096 := by
        unfold Os.nats; rw [List.length_map]
        have h1 := Bi.sets_length_le s.l
        have h2 := (h.sl p s hu).len_le.2
        omega
      obtain ⟨T, hT⟩ : ∃ T, Os.nats (sets s.l) = T := ⟨_, rfl⟩
      rw [hT] at HTk hlen ⊢
      obtain ⟨n, hn⟩ : ∃ n, T.length = n := ⟨_, rfl⟩
      have HN := Lib.hid hn
      rw [hn] at HTk hlen
      have HC := Lib.hid (fun (W : World) (A : Option Addr) (c : Nat) (hA : Os.At W.heap.size W A (Os.ints T)) => contains_any A c n T k W hA hn (by omega))
      clear h hi hx ha hM hu hO hr hk hT hn bad
      go_enter Tryz.func21, Tryz.ntmps21
      go_wp2_with fail
      refine HF.out.mono ?_
      rintro e w1 ⟨rfl, b1⟩
      obtain ⟨w2, hw2⟩ : ∃ w2, w1.alloc (.cells #[.int .i64 p, .int .i64 k] 59) = w2 := ⟨_, rfl⟩
      have b2 : Below w.heap.size w w2 := by rw [← hw2]; exact up_alloc b1 _
      have k2 : Bi.Blk w2 w1.heap.size [.int .i64 p, .int .i64 k] 59 := by rw [← hw2]; exact Gr.Blk.new w1 _ 59
      obtain ⟨bx, hbx⟩ : ∃ bx, w1.heap.size = bx := ⟨_, rfl⟩
      rw [hbx] at k2
      have q0 : w2.cell? ⟨bx, 0, none⟩ = some (.int .i64 p) := k2.cell
      have q1 : w2.cell? ⟨bx, 1, none⟩ = some (.int .i64 k) := k2.cell
      have B2 := Lib.hid b2
      have H2 := Lib.hid (HH.out.below b2)
      have q2 := H2.out.cells.2.1
      have KL := Lib.hid k2.lt
      have HT2 := Lib.hid (fun a => HTk.out (w2.drewN a) (H2.out.drewN a))
      have hl := H2.out.mp.look1 HI64.out
      have hl1 := (H2.out.drewN 1).mp.look1 HI64.out
      rw [HM.out] at hl hl1
      unfold pV at hl hl1
      have mk : ∀ (W : World), Below w2.heap.size w2 W → W.cell? ⟨P.h, 1, none⟩ = some (.map (some P.b)) ∧ W.cell? ⟨bx, 0, none⟩ = some (.int .i64 p) ∧ W.cell? ⟨bx, 1, none⟩ = some (.int .i64 k) ∧ (Instr.lookup 79 (.map (some P.b)) (.int .i64 (p : Int)) false).run Tryz.prog W = .ok (.pointer (some ⟨(P.A p).s, 0, none⟩)) W := fun W hW => by
        have hWm := H2.out.below hW
        have hl := hWm.mp.look1 HI64.out
        rw [HM.out] at hl
        exact ⟨hWm.cells.2.1, (hW.cell (p := ⟨bx, 0, none⟩) KL.out).trans q0, (hW.cell (p := ⟨bx, 1, none⟩) KL.out).trans q1, hl⟩
      have MK := Lib.hid mk
      have S2 := mk (w2.drewN 1) (up_drew (Below.refl _ w2) 1)
      clear b1 b2 k2 HF mk hl hl1
      go_wp2_with fail
      clear hw2 hbx q0 q1 q2
      go_region_held3 (fun w' => w'.cell? ⟨P.h, 1, none⟩ = some (.map (some P.b)) ∧ w'.cell? ⟨bx, 0, none⟩ = some (.int .i64 p) ∧ w'.cell? ⟨bx, 1, none⟩ = some (.int .i64 k) ∧ (Instr.lookup 79 (.map (some P.b)) (.int .i64 (p : Int)) false).run Tryz.prog w' = .ok (.pointer (some ⟨(P.A p).s, 0, none⟩)) w')
        (first | exact S4 | exact S3 | exact S2)
        (first
          | (go_at_call 16; refine (HT2.out 1).mono ?_; rintro e w3 ⟨A, c, rfl, hA, b3⟩; have B3 := Lib.hid ((up_drew (Below.refl _ w2) 1).trans (b3.mono (up_drew (Below.refl _ w2) 1).size)); have S3 := MK.out w3 B3.out; clear b3)
          | (go_at_call 52; refine (HC.out _ A c hA).mono ?_; rintro e w4 ⟨rfl, d4⟩; have B4 := Lib.hid (up_trans B3.out d4.below); have S4 := MK.out w4 B4.out; clear d4))
      go_wp2_with fail
      go_ret
      exact ⟨rfl, up_trans B2.out B4.out⟩
end
end Go.Proofs.YtckcgaliphpgeaaGreatDoor.He
