/-
  What a slab tells of its list: contracts that the claimed proofs use.
-/
import Derived.Test.YtaelfgdiboekpaaDoorNsCheck
import Derived.Test.YtaelfgdiboekpaaDoorNsWList
import Derived.Test.YtaelfgdiboekpaaDoorNsWRow
namespace Go.Proofs.YtaelfgdiboekpaaDoor.Ns
set_option maxRecDepth 100000
open Go.RowKit
open Ce (u ldW Mem)
open Bi (Blk Drawn hasB hasB_iff hasB_not up_alloc up_drew up_trans i64_in ret_i ret_b grown_refl grown_trans grown_below)

/-! ### A row of bits -/
theorem foldl_get {n k : Nat} (hk : k < n) : ∀ (xs : List Nat) (l : List Bool), l.length = n → (xs.foldl (fun l (k : Nat) => Bi.setL l (k : Int) true) l).getD k false = (l.getD k false || decide (k ∈ xs))
  | [], l, _ => by simp
  | x :: xs, l, hl => by
    rw [List.foldl_cons, foldl_get hk xs _ (by rw [Bi.setL_length, hl])]
    have e : (Bi.setL l (x : Int) true).getD k false = (l.getD k false || decide (k = x)) := by
      unfold Bi.setL
      split
      · rename_i hh
        have := hasB_iff.1 hh
        rw [Int.toNat_natCast, List.getD_eq_getElem?_getD, List.getElem?_set, List.getD_eq_getElem?_getD]
        by_cases e : x = k
        · subst e; rw [if_pos rfl, if_pos (by omega)]; simp
        · rw [if_neg e]; simp [show ¬ k = x from fun e2 => e e2.symm]
      · rename_i hh
        have : ¬ k = x := fun e => by subst e; exact hh (hasB_iff.2 (by omega))
        simp [this]
    rw [e, Bool.or_assoc]
    congr 1
    rw [Bool.eq_iff_iff]
    simp
theorem setTo_get {n k : Nat} (hk : k < n) (xs : List Nat) : (setTo n xs).getD k false = decide (k ∈ xs) := by
  unfold setTo
  rw [foldl_get hk xs _ (by simp), List.getD_eq_getElem?_getD, List.getElem?_replicate, if_pos hk]
  rfl
theorem setTo_tst {n k : Nat} (hk : k < n) (xs : List Nat) : Bi.tst (setTo n xs) (k : Int) = decide (k ∈ xs) := by
  unfold Bi.tst
  rw [setTo_len, hasB_iff.2 (by omega), Int.toNat_natCast, setTo_get hk]; rfl
theorem setTo_setB {n k : Nat} (hk : k < n) (xs : List Nat) : Bi.setB (setTo n xs) (k : Int) true = !decide (k ∈ xs) := by
  unfold Bi.setB
  rw [setTo_len, hasB_iff.2 (by omega), Int.toNat_natCast, setTo_get hk]
  cases decide (k ∈ xs) <;> rfl
/-- bits.New. -/
def RowAt (n : Nat) (xs : List Nat) (w : World) (q2 g2 : Nat) : Prop := ∃ ws, Bi.Bits w q2 g2 (setTo n xs) ws
theorem RowAt.below {n : Nat} {xs : List Nat} {w w' : World} {q2 g2 : Nat} (h : RowAt n xs w q2 g2) (hb : Below w.heap.size w w') : RowAt n xs w' q2 g2 := by obtain ⟨ws, h⟩ := h; exact ⟨ws, h.below hb⟩
theorem wrow_none (m : Nat) : List.replicate m (Value.int .u64 0) = Bi.wrow (List.replicate m 0#64) := by
  unfold Bi.wrow; rw [List.map_replicate]; rfl
theorem newRow_any (n : Nat) (hn : n ≤ 4096) (w : World) (hw : 1 < w.heap.size) : Calls Tryd.prog 88 #[.int .i64 (n : Int)] w fun e w' => e = .returned (.tuple #[.pointer (some ⟨w.heap.size + 1, 0, none⟩), .int .i64 0]) ∧ RowAt n [] w' (w.heap.size + 1) w.heap.size ∧ Below w.heap.size w w' := by
  obtain ⟨m, hm⟩ : ∃ m, (n + 63) / 64 = m := ⟨_, rfl⟩
  have e1 : ((n : Int) + 64 - 1) / 64 = (m : Int) := by omega
  have hmk := Bi.make_words m (by omega)
  have HW := Lib.hid hw
  have HM := Lib.hid hm
  clear hm hw
  go_enter Tryd.func88, Tryd.ntmps88
  go_wp2
  go_ret2
  refine ⟨rfl, ⟨List.replicate ((n + 63) / 64) 0#64, ?_, ?_, Bi.fits_none n, by simpa [setTo] using hn, by omega, by have := HW.out; omega⟩, ((Below.refl _ w).alloc (Nat.le_refl _) _).alloc (by simp) _⟩
  · have := heap_alloc_new (w.alloc (.cells (madeCells #[.int .u64 0] m) 22)) (.cells #[.int .i64 (n : Int), .slice (some ⟨w.heap.size, 0, none⟩) m m] 126)
    rw [HM.out]
    simpa [Blk, setTo] using this
  · rw [HM.out, ← wrow_none]
    exact (Blk.made w (.int .u64 0) m 22).of (Below.heap_alloc _ _ _ (by simp))
section
variable {w w' : World} {s q g b c h f : Nat} {bs : List (BitVec 8)} {L : List Nat}
/-! ### Check -/
theorem check_any (m : Sb w s q g bs b c h f) (hT : Tb.Tab w) : Calls Tryd.prog 43 #[.pointer (some ⟨s, 0, none⟩)] w fun e w' => ∃ E xs, e = .returned (.int .i64 E) ∧ Rgt (nx bs b c) h f E xs ∧ Below w.heap.size w w' := by
  have HC := Lib.hid (walk_check m hT (Below.refl _ w))
  clear m hT
  go_enter Tryd.func43, Tryd.ntmps43
  go_wp2_with fail
  refine HC.out.mono ?_
  rintro e w1 ⟨E, xs, rfl, h1, h2⟩
  have H1 := Lib.hid h1
  have H2 := Lib.hid h2
  clear h1 h2 HC
  go_wp2_with fail
  go_ret
  exact ⟨E, xs, rfl, H1.out, H2.out⟩
theorem Rgt.yes {F : Nat → Option Nat} {E : Int} {xs : List Nat} (r : Rgt F h f E xs) (hr : Rt F h f L) : E = 0 ∧ xs = L := by
  rcases r with ⟨rfl, r⟩ | ⟨_, r⟩
  · exact ⟨rfl, r.one hr⟩
  · exact absurd ⟨L, hr⟩ r
theorem Rgt.no {F : Nat → Option Nat} {E : Int} {xs : List Nat} (r : Rgt F h f E xs) (hr : ¬ ∃ L, Rt F h f L) : E = 10 := by
  rcases r with ⟨rfl, r⟩ | ⟨rfl, _⟩
  · exact absurd ⟨_, r⟩ hr
  · rfl
theorem check_yes (m : Sb w s q g bs b c h f) (hT : Tb.Tab w) (hr : Rt (nx bs b c) h f L) : Calls Tryd.prog 43 #[.pointer (some ⟨s, 0, none⟩)] w fun e w' => e = .returned (.int .i64 0) ∧ Below w.heap.size w w' :=
  (check_any m hT).mono fun _ _ ⟨E, xs, he, hg, hb⟩ => ⟨by rw [he, (hg.yes hr).1], hb⟩
theorem check_no (m : Sb w s q g bs b c h f) (hT : Tb.Tab w) (hr : ¬ ∃ L, Rt (nx bs b c) h f L) : Calls Tryd.prog 43 #[.pointer (some ⟨s, 0, none⟩)] w fun e w' => e = .returned (.int .i64 10) ∧ Below w.heap.size w w' :=
  (check_any m hT).mono fun _ _ ⟨E, xs, he, hg, hb⟩ => ⟨by rw [he, hg.no hr], hb⟩
/-! ### List -/
theorem box_list (w : World) : IL w.heap.size w.heap.size w [] (w.alloc (.cells #[.slice none 0 0] 30)) :=
  ⟨up_alloc (Below.refl _ w) _, _, heap_alloc_new w _, World.ownsRow_nil _ _ _ _⟩
theorem list_yes (m : Sb w s q g bs b c h f) (hT : Tb.Tab w) (hr : Rt (nx bs b c) h f L) : Calls Tryd.prog 31 #[.pointer (some ⟨s, 0, none⟩)] w fun e w' =>
    (∃ A cap, e = .returned (.tuple #[.slice A L.length cap, .int .i64 0]) ∧ Li w' A (nats L)) ∧ Below w.heap.size w w' := by
  have HC := Lib.hid ((walk_list m hT (Nat.le_refl _) (box_list w)).mono (fun e w' h => show ∃ v, e = .returned (.int .i64 0) ∧ Below w.heap.size w w' ∧ Blk w' w.heap.size [v] 30 ∧ w'.ownsRow w.heap.size 3 1 v L.length (ints (nats L)) from by
    obtain ⟨E, xs, he, hg, hb, v, h1, h2⟩ := h
    obtain ⟨e1, e2⟩ := hg.yes hr
    rw [e1] at he; subst e2
    exact ⟨v, he, hb, h1, h2⟩))
  clear m hT hr
  go_enter Tryd.func31, Tryd.ntmps31
  go_wp2_with fail
  refine HC.out.mono ?_
  rintro e w1 ⟨v, rfl, hb, h1, h2⟩
  have c0 : w1.cell? ⟨w.heap.size, 0, none⟩ = some v := h1.cell
  obtain ⟨A, n0, rfl⟩ := own_form h2
  have HB := Lib.hid hb
  have HA := Lib.hid (own_li h2)
  clear hb h1 h2 HC
  go_wp2_with fail
  go_ret2
  exact ⟨⟨A, n0, rfl, HA.out⟩, HB.out⟩
theorem list_no (m : Sb w s q g bs b c h f) (hT : Tb.Tab w) (hr : ¬ ∃ L, Rt (nx bs b c) h f L) : Calls Tryd.prog 31 #[.pointer (some ⟨s, 0, none⟩)] w fun e w' =>
    e = .returned (.tuple #[.slice none 0 0, .int .i64 10]) ∧ Below w.heap.size w w' := by
  have HC := Lib.hid ((walk_list m hT (Nat.le_refl _) (box_list w)).mono (fun e w' h => show e = .returned (.int .i64 10) ∧ Below w.heap.size w w' from by
    obtain ⟨E, xs, he, hg, hb, v, h1, h2⟩ := h
    rw [hg.no hr] at he
    exact ⟨he, hb⟩))
  clear m hT hr
  go_enter Tryd.func31, Tryd.ntmps31
  go_wp2_with fail
  refine HC.out.mono ?_
  rintro e w1 ⟨rfl, hb⟩
  have HB := Lib.hid hb
  clear hb HC
  go_wp2_with fail
  go_ret2
  exact ⟨rfl, HB.out⟩
/-! ### The row of the free slots -/
theorem noSlots_any (m : Sb w s q g bs b c h f) (hT : Tb.Tab w) : Calls Tryd.prog 54 #[.pointer (some ⟨s, 0, none⟩)] w fun e w' =>
    e = .returned (.pointer (some ⟨w.heap.size + 1, 0, none⟩)) ∧ RowAt (nS c) [] w' (w.heap.size + 1) w.heap.size ∧ Below w.heap.size w w' := by
  have HS := Lib.hid (slots_any m hT)
  have h1 := cls c m.hc
  have HN := Lib.hid (newRow_any (nS c) (by omega) w hT.lt)
  generalize nS c = n at *
  clear m hT h1
  go_enter Tryd.func54, Tryd.ntmps54
  go_wp2_with (go_at_call 28; refine HS.out.mono ?_; rintro e w' ⟨rfl, rfl⟩)
  refine HN.out.mono ?_
  rintro e w1 ⟨rfl, h1, h2⟩
  have H1 := Lib.hid h1
  have H2 := Lib.hid h2
  clear h1 h2 HN
  go_wp2_with fail
  go_ret
  exact ⟨rfl, H1.out, H2.out⟩
theorem row_any (m : Sb w s q g bs b c h f) (hT : Tb.Tab w) : Calls Tryd.prog 73 #[.pointer (some ⟨s, 0, none⟩)] w fun e w' =>
    ∃ E xs q2 g2, e = .returned (.tuple #[.pointer (some ⟨q2, 0, none⟩), .int .i64 E]) ∧ Rgt (nx bs b c) h f E xs ∧ RowAt (nS c) xs w' q2 g2 ∧ w.heap.size ≤ q2 ∧ w.heap.size ≤ g2 ∧ Below w.heap.size w w' := by
  have HN := Lib.hid (noSlots_any m hT)
  have HW : Hid (∀ (p : Nat) (V : World), w.heap.size ≤ p → IR w.heap.size p (w.heap.size + 1) w.heap.size (nS c) w [] V → _) := fun p V hp hI => walk_row (w := V) m hT hp (Nat.le_refl _) hI
  clear m hT
  go_enter Tryd.func73, Tryd.ntmps73
  go_wp2_with fail
  refine HN.out.mono ?_
  rintro e w1 ⟨rfl, h1, h2⟩
  have hI : IR w.heap.size w1.heap.size (w.heap.size + 1) w.heap.size (nS c) w [] (w1.alloc (.cells #[.pointer (some ⟨w.heap.size + 1, 0, none⟩)] 103)) := by
    obtain ⟨ws, h1⟩ := h1.below (up_alloc (Below.refl _ w1) (.cells #[.pointer (some ⟨w.heap.size + 1, 0, none⟩)] 103))
    exact ⟨up_alloc h2 _, heap_alloc_new w1 _, ws, h1⟩
  have HC := Lib.hid (HW.out w1.heap.size _ h2.size hI)
  clear h1 h2 hI HN HW
  go_wp2_with fail
  refine HC.out.mono ?_
  rintro e w2 ⟨E, xs, rfl, h1, h2, h3, h4⟩
  have c0 : w2.cell? ⟨w1.heap.size, 0, none⟩ = some (.pointer (some ⟨w.heap.size + 1, 0, none⟩)) := h3.cell
  have H1 := Lib.hid h1
  have H2 := Lib.hid h2
  have H4 := Lib.hid h4
  clear h1 h2 h3 h4 HC
  go_wp2_with fail
  go_ret2
  exact ⟨E, xs, _, _, rfl, H1.out, H4.out, by omega, by omega, H2.out⟩
/-! ### State -/
def stI (n f : Nat) : Int := if f = n then 0 else if f = 0 then 2 else 1
theorem state_any (m : Sb w s q g bs b c h f) (hT : Tb.Tab w) : Calls Tryd.prog 42 #[.pointer (some ⟨s, 0, none⟩)] w fun e w' => e = .returned (.int .i64 (stI (nS c) f)) ∧ w = w' := by
  have c4 := m.c4
  have HS := Lib.hid (slots_any m hT)
  generalize nS c = n at *
  clear m hT
  unfold stI
  by_cases h1 : f = n
  · have d1 : ((f : Int) == (n : Int)) = true := by simp; omega
    rw [if_pos h1]
    clear h1
    go_enter Tryd.func42, Tryd.ntmps42
    go_wp2_with (go_at_call 28; refine HS.out.mono ?_; rintro e w' ⟨rfl, rfl⟩)
    go_ret
    exact ⟨rfl, rfl⟩
  · have d1 : ((f : Int) == (n : Int)) = false := by simp; omega
    rw [if_neg h1]
    by_cases h2 : f = 0
    · have d2 : ((f : Int) == 0) = true := by simp; omega
      rw [if_pos h2]
      clear h1 h2
      go_enter Tryd.func42, Tryd.ntmps42
      go_wp2_with (go_at_call 28; refine HS.out.mono ?_; rintro e w' ⟨rfl, rfl⟩)
      go_ret
      exact ⟨rfl, rfl⟩
    · have d2 : ((f : Int) == 0) = false := by simp; omega
      rw [if_neg h2]
      clear h1 h2
      go_enter Tryd.func42, Tryd.ntmps42
      go_wp2_with (go_at_call 28; refine HS.out.mono ?_; rintro e w' ⟨rfl, rfl⟩)
      go_ret
      exact ⟨rfl, rfl⟩
end
end Go.Proofs.YtaelfgdiboekpaaDoor.Ns
