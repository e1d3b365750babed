/-
  The law on keys, walked: a contract that the claimed proof uses.
-/
import Derived.Test.YthleflfljomeiaaDoorMap
namespace Go.Proofs.YthleflfljomeiaaDoor
open Go.RowKit Go.MapKept Go.ChangeMaps

/-! ### Keys and lists tell rows apart -/
def keyB (a b : List (BitVec 64)) : Bool :=
  (u (a.getD 0 0#64) == u (b.getD 0 0#64)) && ((u (a.getD 1 0#64) == u (b.getD 1 0#64)) && ((u (a.getD 2 0#64) == u (b.getD 2 0#64)) && (u (a.getD 3 0#64) == u (b.getD 3 0#64))))
theorem keyB_iff {a b : List (BitVec 64)} : keyB a b = true ↔ keyV a = keyV b := by
  unfold keyB keyV
  simp only [Bool.and_eq_true, beq_iff_eq, Value.agg.injEq, Array.mk.injEq, List.cons.injEq, Value.int.injEq, true_and, and_true]
theorem getD_inj {a b : List Bool} (hl : a.length = b.length) (h : ∀ j, a.getD j false = b.getD j false) : a = b := by
  apply List.ext_getElem?
  intro j
  by_cases hj : j < a.length
  · have := h j
    rw [List.getD_eq_getElem?_getD, List.getD_eq_getElem?_getD, List.getElem?_eq_getElem hj, List.getElem?_eq_getElem (by omega)] at this
    rw [List.getElem?_eq_getElem hj, List.getElem?_eq_getElem (by omega)]
    exact congrArg some this
  · rw [List.getElem?_eq_none (by omega), List.getElem?_eq_none (by omega)]
theorem key_iff {a b : List Bool} {x y : List (BitVec 64)} (ha : Fits a x) (hb : Fits b y) (hl : a.length = b.length) (hn : a.length ≤ 256) : keyV x = keyV y ↔ a = b := by
  constructor
  · intro h
    apply getD_inj hl
    intro j
    by_cases hj : j < a.length
    · have e := keyV_inj h (j / 64) (by omega)
      rw [← fits_at ha j, ← fits_at hb j, e]
    · rw [List.getD_eq_getElem?_getD, List.getD_eq_getElem?_getD, List.getElem?_eq_none (by omega), List.getElem?_eq_none (by omega)]
  · rintro rfl
    rw [fits_one ha hb]
theorem sets_iff {a b : List Bool} (hl : a.length = b.length) : sets a = sets b ↔ a = b := by
  constructor
  · intro h
    apply getD_inj hl
    intro j
    have e : j ∈ sets a ↔ j ∈ sets b := by rw [h]
    unfold sets at e
    rw [mem_on, mem_on, hl] at e
    by_cases hj : j < b.length
    · simp only [hj, true_and] at e
      exact Bool.eq_iff_iff.2 e
    · rw [List.getD_eq_getElem?_getD, List.getD_eq_getElem?_getD, List.getElem?_eq_none (by omega), List.getElem?_eq_none (by omega)]
  · rintro rfl; rfl
theorem on_full {b : Nat → Bool} : ∀ {n : Nat}, (on b n).length = n → ∀ j, j < n → b j = true
  | 0, _, j, hj => by omega
  | n + 1, h, j, hj => by
    rw [on_succ, List.length_append] at h
    have h1 := on_length_le b n
    cases hb : b n
    · rw [hb] at h; simp at h; omega
    · rw [hb] at h
      simp at h
      by_cases e : j = n
      · rw [e]; exact hb
      · exact on_full h j (by omega)
theorem on_whole {b : Nat → Bool} : ∀ {n : Nat}, (∀ j, j < n → b j = true) → (on b n).length = n
  | 0, _ => rfl
  | n + 1, h => by rw [on_succ, List.length_append, on_whole (fun j hj => h j (by omega)), h n (by omega)]; rfl
def full (n : Nat) : List Bool := List.replicate n true
theorem full_at {n j : Nat} (h : j < n) : (full n).getD j false = true := by
  unfold full; rw [List.getD_eq_getElem?_getD, List.getElem?_replicate, if_pos h]; rfl
theorem full_length (n : Nat) : (full n).length = n := by simp [full]
theorem full_iff {l : List Bool} : (sets l).length = l.length ↔ l = full l.length := by
  constructor
  · intro h
    apply getD_inj (by rw [full_length])
    intro j
    by_cases hj : j < l.length
    · rw [full_at hj]; exact on_full h j hj
    · rw [List.getD_eq_getElem?_getD, List.getD_eq_getElem?_getD, List.getElem?_eq_none (by omega), List.getElem?_eq_none (by rw [full_length]; omega)]
  · intro h
    exact on_whole (fun j hj => by unfold bt; rw [h]; exact full_at hj)
/-- The row when its first bits have been set. -/
def fill (l : List Bool) : Nat → List Bool
  | 0 => l
  | k + 1 => setL (fill l k) (k : Int) true
theorem fill_length (l : List Bool) : ∀ k, (fill l k).length = l.length
  | 0 => rfl
  | k + 1 => by rw [fill, setL_length, fill_length l k]
theorem fill_at (l : List Bool) : ∀ k j, j < k → j < l.length → (fill l k).getD j false = true
  | 0, j, h, _ => by omega
  | k + 1, j, h, hl => by
    rw [fill]
    unfold setL
    split
    · rw [Int.toNat_natCast, List.getD_eq_getElem?_getD, List.getElem?_set]
      split
      · rw [if_pos (by rw [fill_length]; omega)]; rfl
      · rw [← List.getD_eq_getElem?_getD]; exact fill_at l k j (by omega) hl
    · rename_i hn
      rw [Bool.not_eq_true, hasB_not, fill_length] at hn
      exact fill_at l k j (by omega) hl
theorem fill_full (l : List Bool) : fill l l.length = full l.length := by
  apply getD_inj (by rw [fill_length, full_length])
  intro j
  by_cases hj : j < l.length
  · rw [fill_at l _ j hj hj, full_at hj]
  · rw [List.getD_eq_getElem?_getD, List.getD_eq_getElem?_getD, List.getElem?_eq_none (by rw [fill_length]; omega), List.getElem?_eq_none (by rw [full_length]; omega)]

theorem key_eql (w : World) (a b : List (BitVec 64)) : (binOp .eql 46 (keyV a) (keyV b)).run Tryd.prog w = .ok (.bool (keyB a b)) w := by
  unfold keyV
  rw [run_eql_struct, key_eq]
  rfl
theorem key_guard (w : World) (x y : Operand) (a b : List (BitVec 64)) : (eqGuard .eql 46 x y (keyV a) (keyV b)).run Tryd.prog w = .ok () w := by
  have h : Tryd.prog.eqGuardType Tryd.prog.depth 46 = false := by kernel_rfl
  unfold keyV
  simp [eqGuard, h]
theorem Bits.kept {w w' : World} {q g k kl : Nat} {l : List Bool} {ws : List (BitVec 64)} (h : Bits w q g l ws) (hk : Kept k kl w w') (h1 : q ≠ k) (h2 : q ≠ kl) (h3 : g ≠ k) (h4 : g ≠ kl) : Bits w' q g l ws :=
  ⟨h.1.of (hk q h.1.lt h1 h2), h.2.1.of (hk g h.2.1.lt h3 h4), h.2.2⟩
theorem keys_out (n : Int) (A A2 : Option Addr) (m m2 c c2 : Nat) (w : World) (hT : Tab w) (h : n < 0 ∨ 256 < n ∨ 300 < m ∨ 300 < m2) :
    Calls Tryd.prog 4 #[.int .i64 n, .slice A m c, .slice A2 m2 c2] w fun e w' => e = .returned (.bool true) ∧ Below w.heap.size w w' := by
  have ha := alive_any w hT
  have HA := Lib.hid ha
  clear ha hT
  by_cases h0 : n < 0
  · have hd : decide (n < 0) = true := by simpa using h0
    go_enter Tryd.func4, Tryd.ntmps4
    go_wp2_with fail
    refine HA.out.mono ?_; rintro e w1 ⟨rfl, hb⟩
    go_wp2
    go_ret
    exact ⟨rfl, hb⟩
  · have hd : decide (n < 0) = false := by simpa using h0
    by_cases h1 : 256 < n
    · have hd1 : decide (256 < n) = true := by simpa using h1
      go_enter Tryd.func4, Tryd.ntmps4
      go_wp2_with fail
      refine HA.out.mono ?_; rintro e w1 ⟨rfl, hb⟩
      go_wp2
      go_ret
      exact ⟨rfl, hb⟩
    · have hd1 : decide (256 < n) = false := by simpa using h1
      by_cases h2 : 300 < m
      · have hd2 : decide (300 < (m : Int)) = true := by simp; omega
        go_enter Tryd.func4, Tryd.ntmps4
        go_wp2_with fail
        refine HA.out.mono ?_; rintro e w1 ⟨rfl, hb⟩
        go_wp2
        go_ret
        exact ⟨rfl, hb⟩
      · have hd2 : decide (300 < (m : Int)) = false := by simp; omega
        have hd3 : decide (300 < (m2 : Int)) = true := by simp; omega
        go_enter Tryd.func4, Tryd.ntmps4
        go_wp2_with fail
        refine HA.out.mono ?_; rintro e w1 ⟨rfl, hb⟩
        go_wp2
        go_ret
        exact ⟨rfl, hb⟩
/-- What stands while the clone is filled. -/
def KeyInv (qx gx qc gc N : Nat) (la : List Bool) (wa : List (BitVec 64)) (k0 k1 k2 k3 : BitVec 64) (w : World) (lc : List Bool) (wr : World) : Prop :=
  Bits wr qx gx la wa ∧ (∃ wc, Bits wr qc gc lc wc) ∧ Blk wr N [.int .u64 (u k0), .int .u64 (u k1), .int .u64 (u k2), .int .u64 (u k3)] 46 ∧ Below w.heap.size w wr ∧ Tab wr
theorem KeyInv.next {gx qc gc N : Nat} {la lc lc' : List Bool} {wa : List (BitVec 64)} {k0 k1 k2 k3 : BitVec 64} {w wr w9 : World} (h : KeyInv (gx + 1) gx qc gc N la wa k0 k1 k2 k3 w lc wr) (hg : wr.grownBy w9 (some gc)) (hm : ∃ ws, Bits w9 qc gc lc' ws)
    (zx : gx + 1 < gc) (zk : gc < N) (zw : w.heap.size ≤ gc) : KeyInv (gx + 1) gx qc gc N la wa k0 k1 k2 k3 w lc' w9 :=
  ⟨h.1.far hg (by omega) (by omega), hm, h.2.2.1.far hg (by omega), below_grown h.2.2.2.1 hg h.2.2.2.1.size zw, h.2.2.2.2.grown hg (by omega)⟩
theorem KeyInv.below {qx gx qc gc N : Nat} {la lc : List Bool} {wa : List (BitVec 64)} {k0 k1 k2 k3 : BitVec 64} {w wr w9 : World} (h : KeyInv qx gx qc gc N la wa k0 k1 k2 k3 w lc wr) (hb : Below wr.heap.size wr w9) : KeyInv qx gx qc gc N la wa k0 k1 k2 k3 w lc w9 := by
  obtain ⟨h1, ⟨wc, h2⟩, h3, h4, h5⟩ := h
  exact ⟨h1.below hb, ⟨wc, h2.below hb⟩, h3.below hb, up_trans h4 hb, h5.below hb⟩
theorem KeyInv.beside {gx qc gc N b : Nat} {la lc : List Bool} {wa : List (BitVec 64)} {k0 k1 k2 k3 : BitVec 64} {w wr w9 : World} (h : KeyInv (gx + 1) gx qc gc N la wa k0 k1 k2 k3 w lc wr) (hg : wr.grownBy w9 (some b))
    (zx : gx + 1 < b) (zc : qc < b ∧ gc < b) (zN : N < b) (zw : w.heap.size ≤ b) : KeyInv (gx + 1) gx qc gc N la wa k0 k1 k2 k3 w lc w9 := by
  obtain ⟨h1, ⟨wc, h2⟩, h3, h4, h5⟩ := h
  exact ⟨h1.far hg (by omega) (by omega), ⟨wc, h2.far hg (by omega) (by omega)⟩, h3.far hg (by omega), below_grown h4 hg h4.size zw, h5.grown hg (by omega)⟩
theorem len_map (w : World) (b c n : Nat) (es : Array MapEntry) (hb : w.heap[b]? = some (.map es c)) (hn : es.size = n) : (Builtin.len_ #[50] 3 #[.map (some b)]).run Tryd.prog w = .ok (.int .i64 (n : Int)) w := by
  have := run_len_map (P := Tryd.prog) w 50 3 b es c (by kernel_rfl) hb
  rw [hn] at this; exact this
theorem keep5 {W w2 : World} {N b : Nat} {v0 v1 v2 v3 : Value} {o : Obj} (hb : Below W.heap.size W w2) (h : W.cell? ⟨N, 0, none⟩ = some v0 ∧ W.cell? ⟨N, 1, none⟩ = some v1 ∧ W.cell? ⟨N, 2, none⟩ = some v2 ∧ W.cell? ⟨N, 3, none⟩ = some v3 ∧ W.heap[b]? = some o)
    (hN : N < W.heap.size) (hbs : b < W.heap.size) : w2.cell? ⟨N, 0, none⟩ = some v0 ∧ w2.cell? ⟨N, 1, none⟩ = some v1 ∧ w2.cell? ⟨N, 2, none⟩ = some v2 ∧ w2.cell? ⟨N, 3, none⟩ = some v3 ∧ w2.heap[b]? = some o :=
  ⟨(hb.cell (p := ⟨N, 0, none⟩) hN).trans h.1, (hb.cell (p := ⟨N, 1, none⟩) hN).trans h.2.1, (hb.cell (p := ⟨N, 2, none⟩) hN).trans h.2.2.1, (hb.cell (p := ⟨N, 3, none⟩) hN).trans h.2.2.2.1, (hb.block b hbs).trans h.2.2.2.2⟩
set_option maxRecDepth 100000 in
set_option maxHeartbeats 4000000 in
theorem keys_in (n : Nat) (A A2 : Option Addr) (cs cs2 : List (Bool × Int)) (c c2 : Nat) (w : World) (hT : Tab w) (hn : n ≤ 256) (hm : cs.length ≤ 300) (hm2 : cs2.length ≤ 300) (hca : CA w.heap.size w A cs) (hca2 : CA w.heap.size w A2 cs2) :
    Calls Tryd.prog 4 #[.int .i64 (n : Int), .slice A cs.length c, .slice A2 cs2.length c2] w fun e w' => e = .returned (.bool true) ∧ Below w.heap.size w w' := by
  have ha := alive_any w hT
  have HA := Lib.hid ha
  have HT := Lib.hid hT
  have HCA := Lib.hid hca
  have HCA2 := Lib.hid hca2
  have hpos := hT.lt
  have hd : decide ((n : Int) < 0) = false := by simp
  have hd1 : decide (256 < (n : Int)) = false := by simp; omega
  clear ha hT hca hca2
  obtain ⟨m, hmm⟩ : ∃ m, cs.length = m := ⟨_, rfl⟩
  have HMM := Lib.hid hmm
  rw [hmm] at hm ⊢
  have hd2 : decide (300 < (m : Int)) = false := by simp; omega
  obtain ⟨m2, hmm2⟩ : ∃ m, cs2.length = m := ⟨_, rfl⟩
  have HMM2 := Lib.hid hmm2
  rw [hmm2] at hm2 ⊢
  have hd3 : decide (300 < (m2 : Int)) = false := by simp; omega
  clear hmm hmm2
  have hmk := make_bools n (by omega)
  go_enter Tryd.func4, Tryd.ntmps4
  go_wp2_with fail
  refine HA.out.mono ?_; rintro e w1 ⟨rfl, hb1⟩
  have B1 := Lib.hid hb1
  have z1 := hb1.size
  clear hb1
  go_wp2_with fail
  refine (new_yes n (by omega) w1 (by omega)).mono ?_
  rintro e w2 ⟨rfl, hm2', hb2, hs2⟩
  have B2 := Lib.hid (up_trans B1.out hb2)
  have X2 := Lib.hid hm2'
  have z2 : w1.heap.size + 2 ≤ w2.heap.size := by omega
  clear hb2 hm2' hs2
  go_wp2_with fail
  refine (new_yes n (by omega) w2 (by omega)).mono ?_
  rintro e w3 ⟨rfl, hm3, hb3, hs3⟩
  have B3 := Lib.hid (up_trans B2.out hb3)
  have X3 := Lib.hid (X2.out.below hb3)
  have Y3 := Lib.hid hm3
  have z3 : w2.heap.size + 2 ≤ w3.heap.size := by omega
  clear hb3 hm3 hs3 X2
  go_wp2_with fail
  have hbl := Blk.made w3 (.bool false) n 4
  rw [brow_none] at hbl
  have b3 : Below w3.heap.size w3 (w3.alloc (.cells (madeCells #[.bool false] n) 4)) := up_alloc (Below.refl _ _) _
  have hdo := do_any (w1.heap.size + 1) w1.heap.size w3.heap.size w1.heap.size (List.replicate n false) _ A cs c _ (X3.out.below b3) hbl (Nat.le_refl _) (by omega) (by have := b3.size; omega) (by omega) (by omega)
    ((HCA.out.below (B3.out.trans (b3.mono (by omega)))) |> fun h hp => by
      obtain ⟨b, o, e, h1, h2⟩ := h hp
      exact ⟨b, o, e, by omega, h2⟩) (by rw [HMM.out]; exact hm)
  rw [List.length_replicate, HMM.out] at hdo
  refine hdo.mono ?_
  obtain ⟨la, hla⟩ : ∃ l, after (List.replicate n false) cs m = l := ⟨_, rfl⟩
  have hll : la.length = n := by rw [← hla, after_length, List.length_replicate]
  rw [hla]
  rintro e w4 ⟨rfl, ⟨wa, hm4⟩, _, hb4, hz4, hk4⟩
  have B4 := Lib.hid ((B3.out.trans (b3.mono (by omega))).trans (hb4.mono (by omega)))
  have X4 := Lib.hid hm4
  have Y4 := Lib.hid ((Y3.out.below b3).kept hk4 (by omega) (by omega) (by omega) (by omega))
  have HLa := Lib.hid hll
  have z4 : w3.heap.size + 1 ≤ w4.heap.size := by have := hz4; simp at this; omega
  clear hdo hla hm4 hb4 b3 hbl hll hk4 hz4 X3 Y3
  go_wp2_with fail
  have hbl := Blk.made w4 (.bool false) n 4
  rw [brow_none] at hbl
  have b4 : Below w4.heap.size w4 (w4.alloc (.cells (madeCells #[.bool false] n) 4)) := up_alloc (Below.refl _ _) _
  have hdo := do_any (w2.heap.size + 1) w2.heap.size w4.heap.size w1.heap.size (List.replicate n false) _ A2 cs2 c2 _ (Y4.out.below b4) hbl (by omega) (by omega) (by have := b4.size; omega) (by omega) (by omega)
    ((HCA2.out.below (B4.out.trans (b4.mono (by omega)))) |> fun h hp => by
      obtain ⟨b, o, e, h1, h2⟩ := h hp
      exact ⟨b, o, e, by omega, h2⟩) (by rw [HMM2.out]; exact hm2)
  rw [List.length_replicate, HMM2.out] at hdo
  refine hdo.mono ?_
  obtain ⟨lb, hlb⟩ : ∃ l, after (List.replicate n false) cs2 m2 = l := ⟨_, rfl⟩
  have hll : lb.length = n := by rw [← hlb, after_length, List.length_replicate]
  rw [hlb]
  rintro e w5 ⟨rfl, ⟨wb, hm5⟩, _, hb5, hz5, hk5⟩
  have B5 := Lib.hid ((B4.out.trans (b4.mono (by omega))).trans (hb5.mono (by omega)))
  have Y5 := Lib.hid hm5
  have X5 := Lib.hid ((X4.out.below b4).kept hk5 (by omega) (by omega) (by omega) (by omega))
  have HLb := Lib.hid hll
  have T5 := Lib.hid (HT.out.drop B5.out hpos)
  have z5 : w4.heap.size + 1 ≤ w5.heap.size := by have := hz5; simp at this; omega
  clear hdo hlb hm5 hb5 b4 hbl hll hk5 hz5 X4 Y4 HCA HCA2 B1 B2 B3 B4
  have hD : keyB wa wb = decide (la = lb) := by
    rw [Bool.eq_iff_iff, keyB_iff, decide_eq_true_eq]
    exact key_iff X5.out.2.2.1 Y5.out.2.2.1 (by rw [HLa.out, HLb.out]) (by rw [HLa.out]; exact hn)
  have hD2 : decide (sets la = sets lb) = decide (la = lb) := by
    rw [decide_eq_decide]; exact sets_iff (by rw [HLa.out, HLb.out])
  obtain ⟨D, hDD⟩ : ∃ D, decide (la = lb) = D := ⟨_, rfl⟩
  rw [hDD] at hD hD2
  have HD2 := Lib.hid hD2
  have hke : ∀ w' : World, (binOp .eql 46 (keyV wa) (keyV wb)).run Tryd.prog w' = .ok (.bool D) w' := fun w' => by
    rw [← hD]; exact key_eql w' wa wb
  have hkg : ∀ (w' : World) (x y : Operand), (eqGuard .eql 46 x y (keyV wa) (keyV wb)).run Tryd.prog w' = .ok () w' := fun w' x y => key_guard w' x y wa wb
  have hdd : (D != D) = false := by simp
  clear hD hD2 hDD
  go_wp2_with fail
  go_region_held3 (fun _ => True) (exact trivial)
    ((first
      | (go_at_call 14; refine (same_any (some ⟨g1, 0, none⟩) (some ⟨g2, 0, none⟩) (sets la) (sets lb) cap1 cap2 wl1.heap.size wl2.heap.size wl2 (ia1.below bl2) ia2 (by have := sets_length_le la; rw [HLa.out] at this; omega)).mono ?_; rw [HD2.out]; rintro e wl3 ⟨rfl, hds⟩)
      | (go_at_call 15; refine (list_any (w2.heap.size + 1) w2.heap.size lb wb wl1 ((((show Bits w5.drew _ _ _ _ from Y5.out).below bk1).below bk2).below bl1) ((((show Tab w5.drew from T5.out).below bk1).below bk2).below bl1)).mono ?_; rintro e wl2 ⟨g2, cap2, rfl, _, ia2, bl2⟩)
      | (go_at_call 15; refine (list_any (w1.heap.size + 1) w1.heap.size la wa wk2 (((show Bits w5.drew _ _ _ _ from X5.out).below bk1).below bk2) (((show Tab w5.drew from T5.out).below bk1).below bk2)).mono ?_; rintro e wl1 ⟨g1, cap1, rfl, _, ia1, bl1⟩)
      | (go_at_call 22; refine (key_any (w2.heap.size + 1) w2.heap.size lb wb wk1 ((show Bits w5.drew _ _ _ _ from Y5.out).below bk1)).mono ?_; rintro e wk2 ⟨rfl, bk2⟩)
      | (go_at_call 22; refine (key_any (w1.heap.size + 1) w1.heap.size la wa w5.drew X5.out).mono ?_; rintro e wk1 ⟨rfl, bk1⟩)))
  have S6 : Below w5.heap.size w5.drew wl3 := up_trans (up_trans (up_trans (up_trans bk1 bk2) bl1) bl2) hds.below
  have B6 := Lib.hid (up_trans ((B5.out).drew) S6)
  have X6 := Lib.hid ((show Bits w5.drew _ _ _ _ from X5.out).below S6)
  have T6 := Lib.hid ((show Tab w5.drew from T5.out).below S6)
  have z6 : w5.heap.size ≤ wl3.heap.size := S6.size
  clear S6 bk1 bk2 bl1 bl2 hds ia1 ia2 X5 Y5 T5 B5 hke hkg
  go_wp2_with fail
  refine (clone_any _ _ _ _ wl3 X6.out).mono ?_
  rintro e w6 ⟨qc, gc, rfl, hq6, hg6, hmc, hb6⟩
  have B7 := Lib.hid (up_trans B6.out hb6)
  have X7 := Lib.hid (X6.out.below hb6)
  have C7 := Lib.hid hmc
  have T7 := Lib.hid (T6.out.below hb6)
  have z7 := hmc.1.lt
  have z7' := hmc.2.1.lt
  clear hb6 hmc X6 T6 B6
  go_wp2_with fail
  refine (key_any _ _ _ _ w6 X7.out).mono ?_
  rintro e w7 ⟨rfl, hb7⟩
  have B8 := Lib.hid (up_trans B7.out hb7)
  have X8 := Lib.hid (X7.out.below hb7)
  have C8 := Lib.hid (C7.out.below hb7)
  have T8 := Lib.hid (T7.out.below hb7)
  have z8 := hb7.size
  clear hb7 X7 C7 T7 B7
  obtain ⟨k0, k1, k2, k3, hkv⟩ : ∃ k0 k1 k2 k3, keyV wa = .agg #[.int .u64 (u k0), .int .u64 (u k1), .int .u64 (u k2), .int .u64 (u k3)] := ⟨_, _, _, _, rfl⟩
  have HKV := Lib.hid hkv
  rw [hkv]
  clear hkv
  go_wp2_with fail
  have b9 : Below w7.heap.size w7 (w7.alloc (.cells #[.int .u64 (u k0), .int .u64 (u k1), .int .u64 (u k2), .int .u64 (u k3)] 46)) := up_alloc (Below.refl _ _) _
  have I0 : Hid (KeyInv (w1.heap.size + 1) w1.heap.size qc gc w7.heap.size la wa k0 k1 k2 k3 w (fill la 0) (w7.alloc (.cells #[.int .u64 (u k0), .int .u64 (u k1), .int .u64 (u k2), .int .u64 (u k3)] 46))) :=
    ⟨X8.out.below b9, ⟨_, C8.out.below b9⟩, heap_alloc_new w7 _, up_alloc B8.out _, T8.out.below b9⟩
  clear b9 X8 C8 T8 B8
  generalize w7.alloc (.cells #[.int .u64 (u k0), .int .u64 (u k1), .int .u64 (u k2), .int .u64 (u k3)] 46) = w8 at I0 ⊢
  have zx : w1.heap.size + 1 < gc := by omega
  have zk : gc < w7.heap.size := by omega
  have zq : qc < w7.heap.size := by omega
  have zw : w.heap.size ≤ gc := by omega
  obtain ⟨NK, hNK⟩ : ∃ N, w7.heap.size = N := ⟨_, rfl⟩
  have HNK := Lib.hid hNK
  rw [hNK] at I0 zk zq ⊢
  clear hNK z1 z2 z3 z4 z5 z6 z7 z7' z8 hq6 hg6
  go_loopw [13] (fun i wr => ∃ k : Nat, k ≤ n ∧ i = .int .i64 k ∧ KeyInv (w1.heap.size + 1) w1.heap.size qc gc NK la wa k0 k1 k2 k3 w (fill la k) wr) (fun i _ => n - (intOf i).toNat)
  case atStart => exact ⟨0, by omega, rfl, I0.out⟩
  case round =>
    obtain ⟨k, hk, rfl, hi⟩ := hrel
    have HI := Lib.hid hi
    clear hi I0
    by_cases hlt : k < n
    · obtain ⟨wc, hwc⟩ := HI.out.2.1
      have hset := set_any _ _ _ _ (k : Int) wr hwc
      have HS := Lib.hid hset
      clear hset hwc
      go_wp2_with fail
      refine HS.out.mono ?_
      intro e w9 ht
      obtain ⟨he, hm9, hg9⟩ := ht
      subst he
      have H9 : Hid (KeyInv (w1.heap.size + 1) w1.heap.size qc gc NK la wa k0 k1 k2 k3 w (fill la (k + 1)) w9) := HI.out.next hg9 hm9 zx zk zw
      clear hm9 hg9
      go_wp2
      go_roundw
      case rel => exact ⟨k + 1, by omega, by go_num, H9.out⟩
      case measure => simp [intOf]; omega
    · obtain rfl : k = n := by omega
      have hmmk := @run_makeMap Tryd.prog
      have i1 := HI.out.below (up_alloc (Below.refl _ wr) (.map #[] 0))
      have hb0 : (wr.alloc (.map #[] 0)).heap[wr.heap.size]? = some (.map #[] 0) := heap_alloc_new wr _
      go_wp2_with fail
      have zN := HI.out.2.2.1.lt
      have zb := HI.out.2.2.2.1.size
      obtain ⟨b, hbb⟩ : ∃ b, wr.heap.size = b := ⟨_, rfl⟩
      rw [hbb] at hb0 zN zb ⊢
      have I1 := Lib.hid i1
      generalize wr.alloc (.map #[] 0) = W at I1 hb0 ⊢
      have HB0 := Lib.hid hb0
      have hlk := look_none W.drew b 0 wa #[] hb0 (fun e he => by simp at he)
      have hen := entry_none W.drew b 0 wa #[] hb0 (fun e he => by simp at he)
      have hlt0 : b < W.drew.heap.size := (Array.getElem?_eq_some_iff.1 hb0).1
      have hmp := set_heap W.drew b (.map #[ent wa 0 0] 1) hlt0
      have hst := store_last1 (setBlock W.drew b (.map #[ent wa 0 0] 1)) b 1 0 wa 0 1 hmp
      have hlk2 := look_some (setBlock W.drew b (.map #[ent wa 0 0] 1)) b 1 wa #[ent wa 0 0] 0 0 0 hmp rfl (fun i e hi hn => by
        rcases i with _ | i
        · exact absurd rfl hn
        · simp at hi)
      have hw1 : IntKind.i64.wrap 1 = 1 := by decide
      rw [HKV.out] at hlk hlk2 hen
      have n0 : W.cell? ⟨NK, 0, none⟩ = some (.int .u64 (u k0)) := I1.out.2.2.1.cell
      have n1 : W.cell? ⟨NK, 1, none⟩ = some (.int .u64 (u k1)) := I1.out.2.2.1.cell
      have n2 : W.cell? ⟨NK, 2, none⟩ = some (.int .u64 (u k2)) := I1.out.2.2.1.cell
      have n3 : W.cell? ⟨NK, 3, none⟩ = some (.int .u64 (u k3)) := I1.out.2.2.1.cell
      have hen' : (Instr.mapEntry 50 (.map (some b)) (.agg #[.int .u64 (u k0), .int .u64 (u k1), .int .u64 (u k2), .int .u64 (u k3)])).run Tryd.prog W.drew = .ok (.tuple #[.int .i64 0, .int .i64 0]) (setBlock W.drew b (.map #[ent wa 0 0] 1)) := hen
      have hst' : (Instr.entryStore 50 (.map (some b)) (.int .i64 0) (.int .i64 1)).run Tryd.prog (setBlock W.drew b (.map #[ent wa 0 0] 1)) = .ok () (setBlock (setBlock W.drew b (.map #[ent wa 0 0] 1)) b (.map #[ent wa 1 0] 1)) := hst
      have I2 : Hid (KeyInv (w1.heap.size + 1) w1.heap.size qc gc NK la wa k0 k1 k2 k3 w (fill la k) (setBlock (setBlock W.drew b (.map #[ent wa 0 0] 1)) b (.map #[ent wa 1 0] 1))) := by
        have g0 : W.grownBy (setBlock (setBlock W.drew b (.map #[ent wa 0 0] 1)) b (.map #[ent wa 1 0] 1)) (some b) := grown_trans (grown_trans (grown_drew (grown_refl W _)) (set_grown _ _ _)) (set_grown _ _ _)
        exact I1.out.beside g0 (by omega) (by omega) (by omega) (by omega)
      have M2 : Hid ((setBlock (setBlock W.drew b (.map #[ent wa 0 0] 1)) b (.map #[ent wa 1 0] 1)).heap[b]? = some (.map #[ent wa 1 0] 1)) := set_heap _ b _ (Array.getElem?_eq_some_iff.1 hmp).1
      generalize setBlock (setBlock W.drew b (.map #[ent wa 0 0] 1)) b (.map #[ent wa 1 0] 1) = w10 at hst' I2 M2
      generalize setBlock W.drew b (.map #[ent wa 0 0] 1) = w9 at hen' hst' hlk2
      clear hst hen hmp hlt0 hb0 hbb i1 hmmk HB0
      go_region
      obtain ⟨wc, hwc⟩ := I2.out.2.1
      have hfull : fill la k = full k := by have := fill_full la; rw [HLa.out] at this; exact this
      rw [hfull] at hwc I2
      have hkey := key_any qc gc (full k) wc w10.drew hwc
      obtain ⟨e0, e1, e2, e3, hkc⟩ : ∃ e0 e1 e2 e3, keyV wc = .agg #[.int .u64 (u e0), .int .u64 (u e1), .int .u64 (u e2), .int .u64 (u e3)] := ⟨_, _, _, _, rfl⟩
      rw [hkc] at hkey
      have HKey := Lib.hid hkey
      have HKC := Lib.hid hkc
      have HWC := Lib.hid hwc
      have hiff : keyV wc = keyV wa ↔ full k = la := key_iff hwc.2.2.1 I2.out.1.2.2.1 (by rw [full_length, HLa.out]) (by rw [full_length]; exact hn)
      have HIff := Lib.hid hiff
      clear hwc hkey hkc hfull hiff hlk hlk2 hen' hst' n0 n1 n2 n3 hw1 I1
      go_wp2_with fail
      go_region_law (first | (go_simp; go_at_call 22; refine HKey.out.mono ?_; rintro e w11 ⟨rfl, hb11⟩; obtain ⟨v, st, w12, w13, es, cl, hv0, hv1, hlk, hen, hlk2, hst, hM3, hsize, hg13⟩ := map_step w11 b wa wc ((hb11.block b (Array.getElem?_eq_some_iff.1 M2.out).1).trans M2.out); rw [HKC.out] at hlk hen hlk2; have hwv := i64_in (v + 1) (by omega) (by omega); have HM3 := Lib.hid hM3; have HSz := Lib.hid hsize; have HG13 := Lib.hid hg13; have HB11 := Lib.hid hb11; clear hM3 hsize hg13 hb11))
      all_goals (
        have I3 := Lib.hid (((I2.out.below (Below.refl _ w10).drew).below HB11.out).beside HG13.out (by omega) (by omega) (by omega) (by omega))
        clear hlk hen hlk2 hst hwv hv0 hv1 HB11 HG13 M2 I2
        have cc := count_any _ _ _ _ w13 I3.out.1
        have cl' : (sets (full k)).length = k := by have := (full_iff (l := full k)).2 (by rw [full_length]); rw [full_length] at this; exact this
        have hCt : ∀ w', Below w13.heap.size w13 w' → Calls Tryd.prog 13 #[.pointer (some ⟨qc, 0, none⟩)] w' fun e w'' => e = .returned (.int .i64 (k : Int)) ∧ w' = w'' := by
          intro w' hb
          obtain ⟨wc', hwc'⟩ := I3.out.2.1
          have := count_any _ _ _ _ w' (hwc'.below hb)
          rw [cl'] at this
          exact this
        have HCt := Lib.hid hCt
        have hsz : (es.size = 1 ∧ (sets la).length = k) ∨ (es.size = 2 ∧ (sets la).length ≠ k) := by
          by_cases hf : full k = la
          · exact Or.inl ⟨HSz.out.1 (HIff.out.2 hf), by rw [← hf]; exact cl'⟩
          · refine Or.inr ⟨HSz.out.2 (fun e => hf (HIff.out.1 e)), fun e => hf ?_⟩
            have := (full_iff (l := la)).1 (by rw [HLa.out]; exact e)
            rw [HLa.out] at this
            exact this.symm
        have HSz2 := Lib.hid hsz
        obtain ⟨x, hx⟩ : ∃ x, (sets la).length = x := ⟨_, rfl⟩
        rw [hx] at cc HSz2
        have HCC := Lib.hid cc
        have i3 := I3.out.2.2.1
        have n0 : w13.cell? ⟨NK, 0, none⟩ = some (.int .u64 (u k0)) := i3.cell
        have n1 : w13.cell? ⟨NK, 1, none⟩ = some (.int .u64 (u k1)) := i3.cell
        have n2 : w13.cell? ⟨NK, 2, none⟩ = some (.int .u64 (u k2)) := i3.cell
        have n3 : w13.cell? ⟨NK, 3, none⟩ = some (.int .u64 (u k3)) := i3.cell
        have zN13 := i3.lt
        have zb13 := (Array.getElem?_eq_some_iff.1 HM3.out).1
        have hke : ∀ w' : World, (binOp .eql 46 (.agg #[.int .u64 (u k0), .int .u64 (u k1), .int .u64 (u k2), .int .u64 (u k3)]) (.agg #[.int .u64 (u k0), .int .u64 (u k1), .int .u64 (u k2), .int .u64 (u k3)])).run Tryd.prog w' = .ok (.bool true) w' := fun w' => by
          have := key_eql w' wa wa
          rw [HKV.out, keyB_iff.2 rfl] at this; exact this
        have hkg : ∀ (w' : World) (x y : Operand), (eqGuard .eql 46 x y (.agg #[.int .u64 (u k0), .int .u64 (u k1), .int .u64 (u k2), .int .u64 (u k3)]) (.agg #[.int .u64 (u k0), .int .u64 (u k1), .int .u64 (u k2), .int .u64 (u k3)])).run Tryd.prog w' = .ok () w' := fun w' x y => by
          have := key_guard w' x y wa wa
          rw [HKV.out] at this; exact this
        have hkey := key_any _ _ _ _ w13.drew I3.out.1
        rw [HKV.out] at hkey
        have HKey2 := Lib.hid hkey
        have hkk : ((k : Int) == (k : Int)) = true := by simp
        clear hkey cc hsz cl' hCt hx i3 HKC HWC HIff HSz HKey
        rcases HSz2.out with ⟨s1, s2⟩ | ⟨s1, s2⟩
        · have hxk : ((x : Int) == (k : Int)) = true := by rw [s2]; simp
          have hlen : ∀ w' : World, w'.heap[b]? = some (.map es cl) → (Builtin.len_ #[50] 3 #[.map (some b)]).run Tryd.prog w' = .ok (.int .i64 1) w' := fun w' h => len_map w' b cl 1 es h s1
          clear s2 s1
          go_wp2_with fail
          refine HCC.out.mono ?_; rintro e w' ⟨rfl, rfl⟩
          go_wp2_with fail
          go_region_held3 (fun w' => w'.cell? ⟨NK, 0, none⟩ = some (.int .u64 (u k0)) ∧ w'.cell? ⟨NK, 1, none⟩ = some (.int .u64 (u k1)) ∧ w'.cell? ⟨NK, 2, none⟩ = some (.int .u64 (u k2)) ∧ w'.cell? ⟨NK, 3, none⟩ = some (.int .u64 (u k3)) ∧ w'.heap[b]? = some (.map es cl))
            (first | exact keep5 hb14 ⟨n0, n1, n2, n3, HM3.out⟩ zN13 zb13 | exact ⟨n0, n1, n2, n3, HM3.out⟩)
            ((first
              | (go_at_call 13; refine (HCt.out w14 ((Below.refl _ w13).drew.trans hb14)).mono ?_; rintro e w' ⟨rfl, rfl⟩)
              | (go_at_call 22; refine HKey2.out.mono ?_; rintro e w14 ⟨rfl, hb14⟩)))
          go_wp2
          go_ret
          exact ⟨rfl, up_trans I3.out.2.2.2.1 ((Below.refl _ w13).drew.trans hb14)⟩
        · have hxk : ((x : Int) == (k : Int)) = false := by simp; omega
          have hlen : ∀ w' : World, w'.heap[b]? = some (.map es cl) → (Builtin.len_ #[50] 3 #[.map (some b)]).run Tryd.prog w' = .ok (.int .i64 2) w' := fun w' h => len_map w' b cl 2 es h s1
          clear s2 s1
          go_wp2_with fail
          refine HCC.out.mono ?_; rintro e w' ⟨rfl, rfl⟩
          go_wp2_with fail
          go_region_held3 (fun w' => w'.cell? ⟨NK, 0, none⟩ = some (.int .u64 (u k0)) ∧ w'.cell? ⟨NK, 1, none⟩ = some (.int .u64 (u k1)) ∧ w'.cell? ⟨NK, 2, none⟩ = some (.int .u64 (u k2)) ∧ w'.cell? ⟨NK, 3, none⟩ = some (.int .u64 (u k3)) ∧ w'.heap[b]? = some (.map es cl))
            (first | exact keep5 hb14 ⟨n0, n1, n2, n3, HM3.out⟩ zN13 zb13 | exact ⟨n0, n1, n2, n3, HM3.out⟩)
            ((first
              | (go_at_call 13; refine (HCt.out w14 ((Below.refl _ w13).drew.trans hb14)).mono ?_; rintro e w' ⟨rfl, rfl⟩)
              | (go_at_call 22; refine HKey2.out.mono ?_; rintro e w14 ⟨rfl, hb14⟩)))
          go_wp2
          go_ret
          exact ⟨rfl, up_trans I3.out.2.2.2.1 ((Below.refl _ w13).drew.trans hb14)⟩)
end Go.Proofs.YthleflfljomeiaaDoor
