/-
  Where pages may be taken: contracts that the claimed proofs use.
-/
import Derived.Test.YtjnknnakllbaaaaGreatSpA
namespace Go.Proofs.YtjnknnakllbaaaaGreat.Sp
set_option maxRecDepth 100000
open Go.RowKit

theorem ask_any (n a : Int) (w : World) : Calls Tryz.prog 90 #[.int .i64 n, .int .i64 a] w fun e w' => e = .returned (.bool (askB n a)) ∧ w = w' := by
  by_cases h0 : 1 ≤ n
  · by_cases h1 : a ≤ 4096
    · have hd : decide (1 ≤ n) = true := by simpa using h0
      have hd1 : decide (a ≤ 4096) = true := by simpa using h1
      have e : askB n a = powB a := by unfold askB; rw [hd, hd1]; simp
      rw [e]
      clear e
      go_enter Tryz.func90, Tryz.ntmps90
      go_wp2_with (go_at_call 116; refine (power_any _ _).mono ?_; rintro e w' ⟨rfl, rfl⟩)
      go_ret
      exact ⟨rfl, rfl⟩
    · have hd : decide (1 ≤ n) = true := by simpa using h0
      have hd1 : decide (a ≤ 4096) = false := by simpa using h1
      have e : askB n a = false := by unfold askB; rw [hd1]; simp
      rw [e]
      clear e
      go_enter Tryz.func90, Tryz.ntmps90
      go_wp2
      go_ret
      exact ⟨rfl, rfl⟩
  · have hd : decide (1 ≤ n) = false := by simpa using h0
    have e : askB n a = false := by unfold askB; rw [hd]; simp
    rw [e]
    clear e
    go_enter Tryz.func90, Tryz.ntmps90
    go_wp2
    go_ret
    exact ⟨rfl, rfl⟩
theorem mult_any (p a : Int) (w : World) (h0 : 0 ≤ p) (h1 : p ≤ 4096) (ha : powB a = true) : Calls Tryz.prog 101 #[.int .i64 p, .int .i64 a] w fun e w' => e = .returned (.int .i64 (up p a)) ∧ w = w' := by
  have HU := Lib.hid (fun w => up_yes p a w (sizeB_iff.2 ⟨h0, by omega⟩) ha)
  clear ha
  go_enter Tryz.func101, Tryz.ntmps101
  go_wp2_with (go_at_call 120; refine (HU.out _).mono ?_; rintro e w' ⟨rfl, rfl⟩)
  go_ret
  exact ⟨rfl, rfl⟩
theorem holds_any (n a : Int) (w : World) : Calls Tryz.prog 92 #[.int .i64 n, .int .i64 a] w fun e w' =>
    e = .returned (.func (.func 117) #[] #[.pointer (some ⟨w.heap.size + 1, 0, none⟩), .pointer (some ⟨w.heap.size, 0, none⟩)]) ∧ w' = (w.alloc (.cells #[.int .i64 n] 3)).alloc (.cells #[.int .i64 a] 3) := by
  have hmf := make_func
  go_enter Tryz.func92, Tryz.ntmps92
  go_wp2
  go_ret
  exact ⟨rfl, rfl⟩
theorem fits_any {W : World} {bn ba : Nat} (n a p m : Int) (t : Bool) (hn : W.cell? ⟨bn, 0, none⟩ = some (.int .i64 n)) (ha : W.cell? ⟨ba, 0, none⟩ = some (.int .i64 a)) (h0 : 0 ≤ p) (h1 : p ≤ 4096) (h2 : 0 ≤ m) (h3 : m ≤ 4096) (hpw : powB a = true) (h4 : a ≤ 4096) :
    Calls Tryz.prog 117 #[.agg #[.int .i64 p, .int .i64 m, .bool t], .pointer (some ⟨ba, 0, none⟩), .pointer (some ⟨bn, 0, none⟩)] W fun e w' => e = .returned (.bool (fit n a ⟨p, m, t⟩)) ∧ Below W.heap.size W w' := by
  have hb1 := World.block_lt_of_cell? W _ hn
  have hb2 := World.block_lt_of_cell? W _ ha
  have hb3 : bn ≠ W.heap.size := by dsimp only at hb1; omega
  have hb4 : ba ≠ W.heap.size := by dsimp only at hb2; omega
  have HM : Hid (∀ (w : World) (k : Nat), Calls Tryz.prog 101 #[.int .i64 p, .int .i64 a] (w.drewN k) fun e w' => e = .returned (.int .i64 (up p a)) ∧ ∃ j, w' = w.drewN j) :=
    fun w k => (mult_any p a (w.drewN k) h0 h1 hpw).mono fun _ _ ⟨he, hw⟩ => ⟨he, k, hw.symm⟩
  have hu := up_spec p (powB_bd hpw).1
  have hf : fit n a ⟨p, m, t⟩ = (!t && decide (n ≤ m - (up p a - p))) := rfl
  rw [hf]
  generalize up p a = u at HM hu ⊢
  have hwr := i64_in (u - p) (by omega) (by omega)
  have hwr2 : IntKind.i64.wrap (m - (u - p)) = m - (u - p) := by rw [IntKind.wrap_i64]; omega
  clear hf hpw
  cases t with
  | true =>
    go_enter Tryz.func117, Tryz.ntmps117
    go_wp2_with fail
    go_quiet ((go_at_call 101; exact HM.out _ _))
    go_wp2
    go_ret
    exact ⟨rfl, up_drew (up_alloc (Below.refl _ W) _) _⟩
  | false =>
    go_enter Tryz.func117, Tryz.ntmps117
    go_wp2_with fail
    go_quiet ((go_at_call 101; exact HM.out _ _))
    go_wp2
    go_ret
    exact ⟨rfl, up_drew (up_alloc (Below.refl _ W) _) _⟩
theorem box3d {W w2 : World} {a b c : Value} {t : TypeId} (h : Below (W.alloc (.cells #[a, b, c] t)).drew.heap.size (W.alloc (.cells #[a, b, c] t)).drew w2) :
    w2.cell? ⟨W.heap.size, 0, none⟩ = some a ∧ w2.cell? ⟨W.heap.size, 1, none⟩ = some b ∧ w2.cell? ⟨W.heap.size, 2, none⟩ = some c ∧ Below W.heap.size W w2 := box3 (up_trans (Below.refl _ _).drew h)
/-- A region that draws its order, whose operations read what is the same in every world of a class, and whose calls leave worlds of it. -/
theorem region_in {id : Nat} {Q : Exit → Act → World → Prop} {a : Act} {w : World} {l : List Oper} (S : World → Prop) (hm : Tryz.prog.follows .mixedOrders = true) (hB : Region.lexB .any l.toArray = true) (hS : S w.drew)
    (h : ∀ (ι : Type) (_ : Nonempty ι) (f : ι → World), (∀ n, S (f n)) → (∀ W, S W → ∃ n, W = f n) → wpQuiet Tryz.prog l.toArray (fun w' => ∃ n, w' = f n) (fun a' => ∀ w', (∃ n, w' = f n) → Q .normal a' w') l a) :
    (Code.region id l.toArray true).wp Tryz.prog Q a w :=
  wp_region_quiet (C := fun w' => ∃ n : {W // S W}, w' = n.1) hm hB ⟨⟨w.drew, hS⟩, rfl⟩ (by simpa using h {W // S W} ⟨⟨w.drew, hS⟩⟩ Subtype.val (fun n => n.2) (fun W hW => ⟨⟨W, hW⟩, rfl⟩))
/-- Where the shortest run stands that fits. -/
theorem bst_step (n a : Int) (L : List Rn) (i : Nat) : bst n a L (i + 1) = if fit n a (el L i) = true ∧ (bst n a L i = -1 ∨ (el L i).n < (el L (bst n a L i).toNat).n) then (i : Int) else bst n a L i := rfl
set_option maxHeartbeats 2000000 in
theorem shortest_any {w : World} {q g bn ba : Nat} {N n a : Int} {L : List Rn} (h : Sp w q g L) (hw : WF N L) (hN : N ≤ 4096) (hn : w.cell? ⟨bn, 0, none⟩ = some (.int .i64 n)) (ha : w.cell? ⟨ba, 0, none⟩ = some (.int .i64 a)) (hpw : powB a = true) (h4 : a ≤ 4096) :
    Calls Tryz.prog 91 #[.pointer (some ⟨q, 0, none⟩), .func (.func 117) #[] #[.pointer (some ⟨ba, 0, none⟩), .pointer (some ⟨bn, 0, none⟩)]] w fun e w' => e = .returned (.int .i64 (bst n a L L.length)) ∧ Below w.heap.size w w' := by
  obtain ⟨cap, hqq, hr, hne⟩ := h
  have c0 : w.cell? ⟨q, 0, none⟩ = some (.slice (some ⟨g, 0, none⟩) L.length cap) := hqq.cell
  obtain ⟨M, hM⟩ : ∃ M, L.length = M := ⟨_, rfl⟩
  have HM := Lib.hid hM
  have hlen : M ≤ 4096 := by have := hw.len; omega
  rw [hM] at c0 ⊢
  have HR := Lib.hid hr
  have HQ := Lib.hid hqq
  have hql := hqq.lt
  have HF : Hid (∀ (W : World) (k : Nat), Below w.heap.size w W → k < M → Calls Tryz.prog 117 #[.agg #[.int .i64 (el L k).p, .int .i64 (el L k).n, .bool (el L k).t], .pointer (some ⟨ba, 0, none⟩), .pointer (some ⟨bn, 0, none⟩)] W fun e w' => e = .returned (.bool (fit n a (el L k))) ∧ Below W.heap.size W w') :=
    fun W k hb hk => by
      have hbd := hw.bds hN (by rw [hM]; exact hk)
      exact fits_any n a _ _ _ ((hb.cell (World.block_lt_of_cell? w _ hn)).trans hn) ((hb.cell (World.block_lt_of_cell? w _ ha)).trans ha) hbd.1 hbd.2.1 hbd.2.2.1 hbd.2.2.2 hpw h4
  clear hqq hr hne hM hw hn ha hpw
  go_enter Tryz.func91, Tryz.ntmps91
  go_wp2
  go_loopw [5, 13] (fun b i wr => ∃ k : Nat, k ≤ M ∧ i = .int .i64 k ∧ b = .int .i64 (bst n a L k) ∧ Below w.heap.size w wr) (fun _ i _ => M - (intOf i).toNat)
  case atStart => exact ⟨0, by omega, rfl, rfl, Below.refl _ _⟩
  case round =>
    obtain ⟨k, hk, rfl, rfl, hbel⟩ := hrel
    have HB := Lib.hid hbel
    have hsz := hbel.size
    clear hbel
    by_cases hlt : k < M
    · have hkl : k < L.length := by rw [HM.out]; exact hlt
      have hrow := HR.out.below HB.out
      obtain ⟨r0, r1, r2⟩ := hrow.cells hkl
      have hgl := hrow.lt
      have hqc : wr.cell? ⟨q, 0, none⟩ = some (.slice (some ⟨g, 0, none⟩) M cap) := (HB.out.cell (p := ⟨q, 0, none⟩) hql).trans c0
      have HBA := Lib.hid (up_alloc HB.out (.cells #[.int .i64 (el L k).p, .int .i64 (el L k).n, .bool (el L k).t] 107))
      have HFk := Lib.hid (fun W hb => HF.out W k hb hlt)
      have hst := bst_step n a L k
      have hbi := bst_is n a L k
      have k1 : (0 : Int) ≤ (k : Int) := by omega
      have k2 : (k : Int) < (M : Int) := by omega
      generalize el L k = x at r0 r1 r2 HBA HFk hst
      obtain ⟨p, m, t⟩ := x
      dsimp only at r0 r1 r2 HBA HFk hst
      cases hf : fit n a ⟨p, m, t⟩ with
      | false =>
        rw [hf] at HFk hst
        have e1 : bst n a L (k + 1) = bst n a L k := by rw [hst, if_neg (by simp)]
        have HE := Lib.hid e1
        generalize bst n a L k = B at HE ⊢
        clear hst hbi e1 hrow hf
        go_wp2_with fail
        refine region_in (fun W => Below (wr.alloc (.cells #[.int .i64 p, .int .i64 m, .bool t] 107)).heap.size (wr.alloc (.cells #[.int .i64 p, .int .i64 m, .bool t] 107)) W) (by kernel_rfl) (by kernel_rfl) (Below.refl _ _).drew ?_
        intro ι ine f hS hT
        have HS := Lib.hid hS
        have s0 : ∀ n, (f n).cell? ⟨wr.heap.size, 0, none⟩ = some (.int .i64 p) := fun n => (box3 (HS.out n)).1
        have s1 : ∀ n, (f n).cell? ⟨wr.heap.size, 1, none⟩ = some (.int .i64 m) := fun n => (box3 (HS.out n)).2.1
        have s2 : ∀ n, (f n).cell? ⟨wr.heap.size, 2, none⟩ = some (.bool t) := fun n => (box3 (HS.out n)).2.2.1
        have HC := Lib.hid (fun n => (HFk.out (f n) (up_trans HBA.out (hS n))).mono fun e w' ⟨he, hb⟩ => show _ ∧ ∃ j, w' = f j from ⟨he, hT w' (up_trans (hS n) hb)⟩)
        clear hS hT
        repeat (go_big_quiet_step ((go_at_call 117; exact HC.out _)))
        refine wpQuiet_nil ?_
        rintro _ ⟨n1, rfl⟩
        have b3 := (box3 (HS.out n1)).2.2.2
        have HB2 := Lib.hid (up_trans HB.out b3)
        go_wp2
        go_roundw
        case rel => exact ⟨k + 1, by omega, by go_num, by rw [HE.out], HB2.out⟩
        case measure => simp [intOf]; omega
      | true =>
        rw [hf] at HFk hst
        rcases hbi with ⟨hB, _⟩ | ⟨K, hB, hK, _⟩
        · have e1 : bst n a L (k + 1) = k := by rw [hst, if_pos ⟨rfl, .inl hB⟩]
          have HE := Lib.hid e1
          rw [hB]
          clear hst e1 hrow hf hB
          go_wp2_with fail
          refine region_in (fun W => Below (wr.alloc (.cells #[.int .i64 p, .int .i64 m, .bool t] 107)).heap.size (wr.alloc (.cells #[.int .i64 p, .int .i64 m, .bool t] 107)) W) (by kernel_rfl) (by kernel_rfl) (Below.refl _ _).drew ?_
          intro ι ine f hS hT
          have HS := Lib.hid hS
          have s0 : ∀ n, (f n).cell? ⟨wr.heap.size, 0, none⟩ = some (.int .i64 p) := fun n => (box3 (HS.out n)).1
          have s1 : ∀ n, (f n).cell? ⟨wr.heap.size, 1, none⟩ = some (.int .i64 m) := fun n => (box3 (HS.out n)).2.1
          have s2 : ∀ n, (f n).cell? ⟨wr.heap.size, 2, none⟩ = some (.bool t) := fun n => (box3 (HS.out n)).2.2.1
          have HC := Lib.hid (fun n => (HFk.out (f n) (up_trans HBA.out (hS n))).mono fun e w' ⟨he, hb⟩ => show _ ∧ ∃ j, w' = f j from ⟨he, hT w' (up_trans (hS n) hb)⟩)
          clear hS hT
          repeat (go_big_quiet_step ((go_at_call 117; exact HC.out _)))
          refine wpQuiet_nil ?_
          rintro _ ⟨n1, rfl⟩
          have b3 := (box3 (HS.out n1)).2.2.2
          have HB2 := Lib.hid (up_trans HB.out b3)
          go_wp2
          go_roundw
          case rel => exact ⟨k + 1, by omega, by go_num, by rw [HE.out], HB2.out⟩
          case measure => simp [intOf]; omega
        · have hKl : K < L.length := by omega
          have e0 := (hrow.cells hKl).2.1
          have hBK : ((K : Int) == -1) = false := by simp
          have K2 : (K : Int) < (M : Int) := by omega
          have hgl2 : g ≠ wr.heap.size := by omega
          have hql2 : q ≠ wr.heap.size := by omega
          have HRB : Hid (∀ W, Below wr.heap.size wr W → W.cell? ⟨q, 0, none⟩ = some (.slice (some ⟨g, 0, none⟩) M cap) ∧ W.cell? ⟨g, K * 3 + 1, none⟩ = some (.int .i64 (el L K).n)) := fun W hb =>
            ⟨(hb.cell (p := ⟨q, 0, none⟩) (by show q < _; omega)).trans hqc, (hb.cell (p := ⟨g, K * 3 + 1, none⟩) (by show g < _; omega)).trans e0⟩
          rw [hB] at hst ⊢
          rw [Int.toNat_natCast] at hst
          generalize (el L K).n = y at hst e0 HRB
          by_cases hy : m < y
          · have e1 : bst n a L (k + 1) = k := by rw [hst, if_pos ⟨rfl, .inr hy⟩]
            have HE := Lib.hid e1
            have hdy : decide (m < y) = true := by simpa using hy
            clear hst e1 hrow hf hB hy
            go_wp2_with fail
            refine region_in (fun W => Below (wr.alloc (.cells #[.int .i64 p, .int .i64 m, .bool t] 107)).heap.size (wr.alloc (.cells #[.int .i64 p, .int .i64 m, .bool t] 107)) W) (by kernel_rfl) (by kernel_rfl) (Below.refl _ _).drew ?_
            intro ι ine f hS hT
            have HS := Lib.hid hS
            have s0 : ∀ n, (f n).cell? ⟨wr.heap.size, 0, none⟩ = some (.int .i64 p) := fun n => (box3 (HS.out n)).1
            have s1 : ∀ n, (f n).cell? ⟨wr.heap.size, 1, none⟩ = some (.int .i64 m) := fun n => (box3 (HS.out n)).2.1
            have s2 : ∀ n, (f n).cell? ⟨wr.heap.size, 2, none⟩ = some (.bool t) := fun n => (box3 (HS.out n)).2.2.1
            have s3 : ∀ n, (f n).cell? ⟨q, 0, none⟩ = some (.slice (some ⟨g, 0, none⟩) M cap) := fun n => (HRB.out _ (box3 (HS.out n)).2.2.2).1
            have s4 : ∀ n, (f n).cell? ⟨g, K * 3 + 1, none⟩ = some (.int .i64 y) := fun n => (HRB.out _ (box3 (HS.out n)).2.2.2).2
            have HC := Lib.hid (fun n => (HFk.out (f n) (up_trans HBA.out (hS n))).mono fun e w' ⟨he, hb⟩ => show _ ∧ ∃ j, w' = f j from ⟨he, hT w' (up_trans (hS n) hb)⟩)
            clear hS hT
            repeat (go_big_quiet_step ((go_at_call 117; exact HC.out _)))
            refine wpQuiet_nil ?_
            rintro _ ⟨n1, rfl⟩
            have b3 := (box3 (HS.out n1)).2.2.2
            have HB2 := Lib.hid (up_trans HB.out b3)
            go_wp2
            go_roundw
            case rel => exact ⟨k + 1, by omega, by go_num, by rw [HE.out], HB2.out⟩
            case measure => simp [intOf]; omega
          · have e1 : bst n a L (k + 1) = K := by rw [hst, if_neg (by simp; omega)]
            have HE := Lib.hid e1
            have hdy : decide (m < y) = false := by simpa using hy
            clear hst e1 hrow hf hB hy
            go_wp2_with fail
            refine region_in (fun W => Below (wr.alloc (.cells #[.int .i64 p, .int .i64 m, .bool t] 107)).heap.size (wr.alloc (.cells #[.int .i64 p, .int .i64 m, .bool t] 107)) W) (by kernel_rfl) (by kernel_rfl) (Below.refl _ _).drew ?_
            intro ι ine f hS hT
            have HS := Lib.hid hS
            have s0 : ∀ n, (f n).cell? ⟨wr.heap.size, 0, none⟩ = some (.int .i64 p) := fun n => (box3 (HS.out n)).1
            have s1 : ∀ n, (f n).cell? ⟨wr.heap.size, 1, none⟩ = some (.int .i64 m) := fun n => (box3 (HS.out n)).2.1
            have s2 : ∀ n, (f n).cell? ⟨wr.heap.size, 2, none⟩ = some (.bool t) := fun n => (box3 (HS.out n)).2.2.1
            have s3 : ∀ n, (f n).cell? ⟨q, 0, none⟩ = some (.slice (some ⟨g, 0, none⟩) M cap) := fun n => (HRB.out _ (box3 (HS.out n)).2.2.2).1
            have s4 : ∀ n, (f n).cell? ⟨g, K * 3 + 1, none⟩ = some (.int .i64 y) := fun n => (HRB.out _ (box3 (HS.out n)).2.2.2).2
            have HC := Lib.hid (fun n => (HFk.out (f n) (up_trans HBA.out (hS n))).mono fun e w' ⟨he, hb⟩ => show _ ∧ ∃ j, w' = f j from ⟨he, hT w' (up_trans (hS n) hb)⟩)
            clear hS hT
            repeat (go_big_quiet_step ((go_at_call 117; exact HC.out _)))
            refine wpQuiet_nil ?_
            rintro _ ⟨n1, rfl⟩
            have b3 := (box3 (HS.out n1)).2.2.2
            have HB2 := Lib.hid (up_trans HB.out b3)
            go_wp2
            go_roundw
            case rel => exact ⟨k + 1, by omega, by go_num, by rw [HE.out], HB2.out⟩
            case measure => simp [intOf]; omega
    · obtain rfl : k = M := by omega
      go_wp2
      go_ret
      exact ⟨rfl, HB.out⟩
end Go.Proofs.YtjnknnakllbaaaaGreat.Sp
