/-
  The statements' first call.
-/
import Derived.Test.YtjnknnakllbaaaaGreatGrNew
import Derived.Test.YtjnknnakllbaaaaGreatGrSpans
namespace Go.Proofs.YtjnknnakllbaaaaGreat.Gr
set_option maxRecDepth 100000
open Go.RowKit

set_option maxRecDepth 100000 in
set_option maxHeartbeats 4000000 in
theorem sameints_any (X : List Int) (A1 A2 : Option Addr) (c1 c2 n1 n2 : Nat) (w : World) (h1 : At w.heap.size w A1 (ints X)) (h2 : At w.heap.size w A2 (ints X)) (hl : X.length ≤ 1048576) (e1 : X.length = n1) (e2 : X.length = n2) :
    Calls Tryz.prog 21 #[.slice A1 n1 c1, .slice A2 n2 c2] w fun e w' => e = .returned (.bool true) ∧ Below w.heap.size w w' := by
  obtain rfl : n1 = n2 := e1.symm.trans e2
  have H1 := Lib.hid h1
  have H2 := Lib.hid h2
  have HN := Lib.hid e1
  rw [e1] at hl
  have hd : ((n1 : Int) != (n1 : Int)) = false := by simp
  clear h1 h2 e1 e2
  go_enter Tryz.func21, Tryz.ntmps21
  go_wp2_with fail
  go_loopw [5] (fun i wr => ∃ k : Nat, k ≤ n1 ∧ i = .int .i64 k ∧ Below w.heap.size w wr) (fun i _ => n1 - (intOf i).toNat)
  case atStart => exact ⟨0, by omega, rfl, Below.refl _ _⟩
  case round =>
    obtain ⟨k, hk, rfl, hb⟩ := hrel
    have HB := Lib.hid hb
    by_cases hlt : k < n1
    · have hkl : k < X.length := by rw [HN.out]; exact hlt
      obtain ⟨b, o, rfl, _, q0⟩ := (H1.out.below hb).int hkl
      obtain ⟨b', o', rfl, _, r0⟩ := (H2.out.below hb).int hkl
      have j1 : (0 : Int) ≤ (k : Int) := by omega
      have j2 : (k : Int) < (n1 : Int) := by omega
      obtain ⟨x, hx⟩ : ∃ x, X[k] = x := ⟨_, rfl⟩
      rw [hx] at q0 r0
      have hxx : (x != x) = false := by simp
      clear hx hkl hb
      go_wp2_with fail
      go_quiet (fail)
      go_wp2_with fail
      go_roundw
      case rel => exact ⟨k + 1, by omega, by go_num, up_drew HB.out _⟩
      case measure => simp [intOf]; omega
    · obtain rfl : k = n1 := by omega
      clear hb
      go_wp2_with fail
      go_ret
      exact ⟨rfl, HB.out⟩

section
variable {w w' : World} {q : Nat} {p : Pl} {N t : Int} {L : List Sp.Rn} {f : Ra.Ws} {S : List Le.Row} {bs : List (BitVec 8)}
/-- A ground of which all parts are newer than a world. -/
structure Ev (w0 w : World) (q : Nat) (p : Pl) (N : Int) (L : List Sp.Rn) (f : Ra.Ws) (t : Int) (S : List Le.Row) (bs : List (BitVec 8)) : Prop where
  gm : Gm w q p N L f t S bs
  fresh : Fresh w0.heap.size p
  bel : Below w0.heap.size w0 w
theorem Ev.below {w0 : World} (h : Ev w0 w q p N L f t S bs) (hb : Below w.heap.size w w') : Ev w0 w' q p N L f t S bs := ⟨h.gm.below hb, h.fresh, up_trans h.bel hb⟩
theorem Ev.step {w0 : World} {o : Out} (h : Ev w0 w q p N L f t S bs) (hb : Bec q p N bs o w w') : ∃ p', Ev w0 w' q p' N o.L o.f o.t o.S bs ∧ p'.qc = p.qc ∧ p'.gc = p.gc := by
  obtain ⟨g, m, h1, h2, h3⟩ := hb
  refine ⟨p.put g m, ⟨h1, ⟨fun k hk => ?_, h.fresh.2⟩, h.bel.trans (h2.below h.fresh.1 h.bel.size)⟩, rfl, rfl⟩
  rcases h3 k hk with e | e
  · exact h.fresh.1 k e
  · exact Nat.le_trans h.bel.size e
end
/-- The states of the first call. -/
def s1 : Out := openO (Sp.newL 16) (fun _ => 0) 0 [Le.z8] 3 1 2 0
def s2 : Out := openO s1.L s1.f s1.t s1.S 4 4 0 5
def s3 : Out := markO s2.L s2.f s2.t s2.S 4 1 4 1
def s4 : Out := closeO s3.L s3.f s3.t s3.S 0
def r4 : Le.Row := fun k => if k = 0 then 4 else if k = 2 then 3 else 0
theorem c1 : s1.v = 0 ∧ s1.e = 0 ∧ s2.v = 4 ∧ s2.e = 0 ∧ s3.e = 0 ∧ s4.v = 3 ∧ s4.e = 0 := by decide +kernel
theorem c2 : Ra.spanOf (Ra.wAt 16 s2.f (1100 / 256)) = 4 ∧ Ra.verOf (Ra.wAt 16 s2.f (1100 / 256)) = 0 ∧ Ra.clsOf (Ra.wAt 16 s2.f (1100 / 256)) = 5 ∧ Ra.staOf (Ra.wAt 16 s2.f (1100 / 256)) = 0 ∧ (Ra.wAt 16 s2.f (1100 / 256) != 0) = true := by decide +kernel
theorem c3 : Ra.spanOf (Ra.wAt 16 s3.f (2047 / 256)) = 4 ∧ Ra.verOf (Ra.wAt 16 s3.f (2047 / 256)) = 1 ∧ Ra.clsOf (Ra.wAt 16 s3.f (2047 / 256)) = 4 ∧ Ra.staOf (Ra.wAt 16 s3.f (2047 / 256)) = 1 ∧ (Ra.wAt 16 s3.f (2047 / 256) != 0) = true := by decide +kernel
theorem c4 : Le.heldOf (Le.hd s4.S) 1 = 4 ∧ Sp.fsum s4.L = 12 ∧ Sp.gvv s4.L 4 = 4 ∧ Sp.gvv s4.L 5 = 0 ∧ canB s4.L 8 8 = true ∧ Le.pk s4.S = 7 ∧ s4.t = 4 ∧ spL s4.L s4.f 1 = [4] ∧ Le.cn s4.S r4 = 1 := by decide +kernel
theorem l1 : s1.S.length ≤ 1000 ∧ s2.S.length ≤ 1000 ∧ s3.S.length ≤ 1000 ∧ s4.S.length ≤ 1000 := by decide +kernel
set_option maxHeartbeats 8000000 in
theorem alive_any (w : World) : Calls Tryz.prog 6 #[] w fun e w' => e = .returned (.bool true) ∧ Below w.heap.size w w' := by
  have HNew := Lib.hid (new_yes 16 w (by omega) (by omega))
  obtain ⟨x1, x2, x3, x4, x5, x6, x7⟩ := c1
  obtain ⟨y1, y2, y3, y4, y5⟩ := c2
  obtain ⟨y6, y7, y8, y9, y10⟩ := c3
  obtain ⟨z1, z2, z3, z4, z5, z6, z7, z8, z9⟩ := c4
  go_enter Tryz.func6, Tryz.ntmps6
  go_wp2_with fail
  refine HNew.out.mono ?_
  rintro e w1 ⟨q, p1, rfl, g1, hq1, fr1, b1⟩
  have E1 : Hid (Ev w w1 q p1 16 _ _ _ _ _) := ⟨g1, fr1, b1⟩
  have HO1 := Lib.hid (open_any 3 1 2 0 g1 (by decide))
  have e1 : openO (Sp.newL 16) (fun _ => 0) 0 [Le.z8] 3 1 2 0 = s1 := rfl
  rw [e1, x1, x2] at HO1
  have HCe := Lib.hid (cells_any g1)
  clear g1 fr1 b1 HNew hq1 e1
  go_wp2_with (go_at_call 31; refine HCe.out.mono ?_; rintro e w' ⟨rfl, rfl⟩)
  refine HO1.out.mono ?_
  rintro e w2 ⟨rfl, h2⟩
  obtain ⟨p2, E2, -, -⟩ := E1.out.step h2
  have HE2 := Lib.hid E2
  have HO2 := Lib.hid (open_any 4 4 0 5 E2.gm l1.1)
  have e2 : openO s1.L s1.f s1.t s1.S 4 4 0 5 = s2 := rfl
  rw [e2, x3, x4] at HO2
  clear h2 E2 HO1 HCe E1 e2
  go_wp2_with fail
  refine HO2.out.mono ?_
  rintro e w3 ⟨rfl, h3⟩
  obtain ⟨p3, E3, -, -⟩ := HE2.out.step h3
  have HE3 := Lib.hid E3
  have HAt := Lib.hid (at_any 1100 (by unfold Ra.I64; omega) E3.gm)
  unfold Ra.entV at HAt
  rw [y1, y2, y3, y4, y5] at HAt
  clear h3 E3 HO2 HE2
  go_wp2_with fail
  refine HAt.out.mono ?_
  rintro e w4 ⟨rfl, b4⟩
  go_wp2_with fail
  obtain ⟨w5, hw5⟩ : ∃ w5, w4.alloc (.cells #[.int .i64 4, .int .i64 0, .int .i64 5, .int .i64 0] 52) = w5 := ⟨_, rfl⟩
  have b5 : Below w3.heap.size w3 w5 := by rw [← hw5]; exact up_alloc b4 _
  have k5 : Blk w5 w4.heap.size [.int .i64 4, .int .i64 0, .int .i64 5, .int .i64 0] 52 := by rw [← hw5]; exact Blk.new w4 _ 52
  obtain ⟨bx, hbx⟩ : ∃ bx, w4.heap.size = bx := ⟨_, rfl⟩
  rw [hbx] at k5
  have K5 := Lib.hid k5
  have HE5 := Lib.hid (HE3.out.below b5)
  have HMk := Lib.hid (mark_any 4 1 4 1 HE5.out.gm l1.2.1)
  have e3 : markO s2.L s2.f s2.t s2.S 4 1 4 1 = s3 := rfl
  rw [e3, x5] at HMk
  rw [hw5, hbx]
  clear b4 b5 k5 HAt HE3 e3 hw5 hbx
  refine HMk.out.mono ?_
  rintro e w6 ⟨rfl, h6⟩
  obtain ⟨p6, E6, -, -⟩ := HE5.out.step h6
  have k6 : Blk w6 bx [.int .i64 4, .int .i64 0, .int .i64 5, .int .i64 0] 52 := by
    obtain ⟨_, _, _, f6, _⟩ := h6
    exact Sp.Blk.of K5.out (f6.block _ (Sp.Blk.lt K5.out) (HE5.out.gm.gx.other (kind_blk K5.out) (by decide)))
  have K6 := Lib.hid k6
  have HE6 := Lib.hid E6
  have HAt2 := Lib.hid (at_any 2047 (by unfold Ra.I64; omega) E6.gm)
  unfold Ra.entV at HAt2
  rw [y6, y7, y8, y9, y10] at HAt2
  clear h6 E6 k6 HMk HE5 K5
  go_wp2_with fail
  refine HAt2.out.mono ?_
  rintro e w7 ⟨rfl, b7⟩
  obtain ⟨w8, hw8⟩ : ∃ w8, w7.alloc (.cells #[.int .i64 4, .int .i64 1, .int .i64 4, .int .i64 1] 52) = w8 := ⟨_, rfl⟩
  have b8 : Below w6.heap.size w6 w8 := by rw [← hw8]; exact up_alloc b7 _
  have k8 : Blk w8 w7.heap.size [.int .i64 4, .int .i64 1, .int .i64 4, .int .i64 1] 52 := by rw [← hw8]; exact Blk.new w7 _ 52
  obtain ⟨by', hby⟩ : ∃ by', w7.heap.size = by' := ⟨_, rfl⟩
  rw [hby] at k8
  have K8 := Lib.hid k8
  have K8' := Lib.hid (K6.out.below b8)
  have HE8 := Lib.hid (HE6.out.below b8)
  have HCl := Lib.hid (close_any 0 HE8.out.gm l1.2.2.1)
  have e4 : closeO s3.L s3.f s3.t s3.S 0 = s4 := rfl
  rw [e4, x6, x7] at HCl
  clear b7 b8 k8 HAt2 HE6 K6 e4
  go_wp2_with fail
  clear hw8 hby
  refine HCl.out.mono ?_
  rintro e w9 ⟨rfl, h9⟩
  obtain ⟨p9, E9, -, -⟩ := HE8.out.step h9
  have keep : ∀ {b : Nat} {vs : List Value}, Blk w8 b vs 52 → Blk w9 b vs 52 := fun hk => by
    obtain ⟨_, _, _, f9, _⟩ := h9
    exact Sp.Blk.of hk (f9.block _ (Sp.Blk.lt hk) (HE8.out.gm.gx.other (kind_blk hk) (by decide)))
  have k9 := keep K8.out
  have k9' := keep K8'.out
  have HE9 := Lib.hid E9
  have u0 : w9.cell? ⟨bx, 0, none⟩ = some (.int .i64 4) := Sp.Blk.cell k9'
  have u1 : w9.cell? ⟨bx, 1, none⟩ = some (.int .i64 0) := Sp.Blk.cell k9'
  have u2 : w9.cell? ⟨bx, 2, none⟩ = some (.int .i64 5) := Sp.Blk.cell k9'
  have u3 : w9.cell? ⟨bx, 3, none⟩ = some (.int .i64 0) := Sp.Blk.cell k9'
  have v0 : w9.cell? ⟨by', 0, none⟩ = some (.int .i64 4) := Sp.Blk.cell k9
  have v1 : w9.cell? ⟨by', 1, none⟩ = some (.int .i64 1) := Sp.Blk.cell k9
  have v2 : w9.cell? ⟨by', 2, none⟩ = some (.int .i64 4) := Sp.Blk.cell k9
  have v3 : w9.cell? ⟨by', 3, none⟩ = some (.int .i64 1) := Sp.Blk.cell k9
  have HHe := Lib.hid (held_any 1 E9.gm)
  rw [z1] at HHe
  have HFr := Lib.hid (free_any E9.gm)
  rw [z2] at HFr
  clear h9 E9 keep k9 k9' HCl HE8 K8 K8'
  go_wp2_with (first
    | (go_at_call 20; refine HHe.out.mono ?_; rintro e w' ⟨rfl, rfl⟩)
    | (go_at_call 25; refine HFr.out.mono ?_; rintro e wa ⟨rfl, ba⟩; have Ea := Lib.hid (HE9.out.below ba); have HL4 := Lib.hid (len_any 4 Ea.out.gm); rw [z3] at HL4; clear ba)
    | (go_at_call_of 18 (Value.int IntKind.i64 4); refine HL4.out.mono ?_; rintro e wb ⟨rfl, bb⟩; have Eb := Lib.hid (Ea.out.below bb); have HL5 := Lib.hid (len_any 5 Eb.out.gm); rw [z4] at HL5; clear bb)
    | (go_at_call_of 18 (Value.int IntKind.i64 5); refine HL5.out.mono ?_; rintro e wc ⟨rfl, bc⟩; have Ec := Lib.hid (Eb.out.below bc); have HCa := Lib.hid (can_any 8 8 Ec.out.gm); rw [z5] at HCa; clear bc)
    | (go_at_call 26; refine HCa.out.mono ?_; rintro e wd ⟨rfl, bd⟩; have Ed := Lib.hid (Ec.out.below bd); have HPk := Lib.hid (peak_any Ed.out.gm); rw [z6] at HPk; have HSt := Lib.hid (stamp_any Ed.out.gm); rw [z7] at HSt; have HPa := Lib.hid (pages_any Ed.out.gm); have HSp := Lib.hid (spans_any 1 Ed.out.gm); rw [z8] at HSp; clear bd)
    | (go_at_call 28; refine HPk.out.mono ?_; rintro e w' ⟨rfl, rfl⟩)
    | (go_at_call 12; refine HSt.out.mono ?_; rintro e w' ⟨rfl, rfl⟩)
    | (go_at_call 24; refine HPa.out.mono ?_; rintro e w' ⟨rfl, rfl⟩)
    | (go_at_call 22; refine HSp.out.mono ?_; rintro e we ⟨A, c, rfl, ate, be⟩; have Ee := Lib.hid (Ed.out.below be); have ATe := Lib.hid ate; clear ate be))
  have bn := up_alloc (Below.refl we.heap.size we) (.cells #[.int .i64 4] 3)
  have An : At (we.alloc (.cells #[.int .i64 4] 3)).heap.size (we.alloc (.cells #[.int .i64 4] 3)) (some ⟨we.heap.size, 0, none⟩) (ints [4]) := fun _ =>
    ⟨we.heap.size, 0, rfl, by rw [World.size_alloc]; omega, fun j v hj => by
      have hk := Blk.new we [.int .i64 4] 3
      rw [Nat.zero_add]
      exact (Sp.Blk.cell hk).trans hj⟩
  have HSI := Lib.hid (sameints_any [4] A (some ⟨we.heap.size, 0, none⟩) c 1 1 1 _ (ATe.out.up bn) An (by decide) rfl rfl)
  have En := Lib.hid (Ee.out.below bn)
  clear bn An
  refine HSI.out.mono ?_
  rintro e wf ⟨rfl, bf⟩
  have Ef := Lib.hid (En.out.below bf)
  have HCe2 := Lib.hid (cells_any Ef.out.gm)
  have HCl2 := Lib.hid (clen_any Ef.out.gm)
  have e9 : (256 * 16 : Int) = 4096 := rfl
  rw [e9] at HCl2
  have HTi := Lib.hid (times_any r4 (fun i hi => Le.wf_of (by unfold r4; (repeat' split) <;> omega) (by unfold r4; (repeat' split) <;> omega)) Ef.out.gm)
  rw [z9] at HTi
  have e10 : Le.rowV r4 = .agg #[.int .i64 4, .int .i64 0, .int .i64 3, .int .i64 0, .int .i64 0, .int .i64 0, .int .i64 0, .int .i64 0] := rfl
  rw [e10] at HTi
  clear bf HSI e9 e10
  go_wp2_with (first
    | (go_at_call 31; refine HCe2.out.mono ?_; rintro e w' ⟨rfl, rfl⟩)
    | (go_at_call 32; refine HCl2.out.mono ?_; rintro e w2x ⟨rfl, rfl⟩)
    | (go_at_call 29; refine HTi.out.mono ?_; rintro e wg ⟨rfl, bg⟩; have Eg := Lib.hid (Ef.out.below bg); clear bg))
  go_ret
  exact ⟨rfl, Eg.out.bel⟩
end Go.Proofs.YtjnknnakllbaaaaGreat.Gr
