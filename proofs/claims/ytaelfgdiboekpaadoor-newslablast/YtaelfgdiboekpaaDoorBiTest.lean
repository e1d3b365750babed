/-
  What Test, Set and Clear do: contracts that the claimed proofs use.
-/
import Derived.Test.YtaelfgdiboekpaaDoorBiSmall
namespace Go.Proofs.YtaelfgdiboekpaaDoor.Bi
set_option maxRecDepth 100000
open Go.RowKit

theorem andNot_u (a b : BitVec 64) : bits .andNot .u64 (u a) (u b) = u (a &&& ~~~ b) := by
  unfold u; rw [u64_andNot_nat _ _ a.isLt b.isLt, BitVec.toNat_and, BitVec.toNat_not]
def Drawn (w wr : World) : Prop := ∃ j, wr = w.drewN j
theorem Drawn.refl (w : World) : Drawn w w := ⟨0, rfl⟩
theorem Drawn.on {w wr : World} (h : Drawn w wr) (n : Nat) : Drawn w (wr.drewN n) := by
  obtain ⟨j, rfl⟩ := h; exact ⟨j + n, by rw [World.drewN_drewN]⟩
theorem Drawn.trans {a b c : World} (h : Drawn a b) (k : Drawn b c) : Drawn a c := by
  obtain ⟨j, rfl⟩ := k; exact h.on j
theorem Drawn.below {w wr : World} (h : Drawn w wr) : Below w.heap.size w wr := by
  obtain ⟨j, rfl⟩ := h; exact up_drew (Below.refl _ w) j
theorem drewN_heap (w : World) : ∀ j, (w.drewN j).heap = w.heap
  | 0 => rfl
  | j + 1 => drewN_heap w j
theorem Drawn.heap {w wr : World} (h : Drawn w wr) : wr.heap = w.heap := by
  obtain ⟨j, rfl⟩ := h; exact drewN_heap w j

theorem bit_word (x : BitVec 64) (k : Nat) (hk : k < 64) : (x &&& (1#64 <<< k) != 0#64) = x.getLsbD k := by
  cases h : x.getLsbD k
  · simp only [bne_eq_false_iff_eq]
    apply BitVec.eq_of_getLsbD_eq
    intro j hj
    rw [BitVec.getLsbD_and, BitVec.getLsbD_shiftLeft, BitVec.getLsbD_zero]
    by_cases e : j = k
    · subst e; simp [h]
    · by_cases e2 : j < k
      · simp [e2]
      · have : j - k ≠ 0 := by omega
        simp [this]
  · simp only [bne_iff_ne]
    intro e
    have := congrArg (fun z => z.getLsbD k) e
    rw [BitVec.getLsbD_and, BitVec.getLsbD_shiftLeft] at this
    rw [h] at this
    simp [hk] at this
theorem bit_raw2 (x : BitVec 64) (k : Nat) (hk : k < 64) : (bits .and .u64 (u x) (u (1#64 <<< k)) != 0) = x.getLsbD k := by
  rw [and_u, show (0 : Int) = u 0#64 from rfl, u_bne, bit_word x k hk]

theorem tdiv64 (k : Nat) : (k : Int).tdiv 64 = ((k / 64 : Nat) : Int) := by rw [Int.tdiv_eq_ediv_of_nonneg (by omega)]; omega
/-- Is a bit set? -/
def tst (l : List Bool) (k : Int) : Bool := hasB l.length k && l.getD k.toNat false
theorem tst_nat (l : List Bool) (k : Nat) : tst l (k : Int) = l.getD k false := by
  unfold tst
  by_cases h : k < l.length
  · rw [hasB_iff.2 (by omega)]; simp
  · rw [hasB_not.2 (by omega), Bool.false_and, List.getD_eq_getElem?_getD, List.getElem?_eq_none (by omega)]; rfl
theorem has_quiet (q n : Nat) (k : Int) (b : Bool) (w : World) (a : Nat) (hc : w.cell? ⟨q, 0, none⟩ = some (.int .i64 (n : Int))) (hb : hasB n k = b) :
    Calls Tryd.prog 89 #[.pointer (some ⟨q, 0, none⟩), .int .i64 k] (w.drewN a) fun e w' => e = .returned (.bool b) ∧ ∃ m, w' = w.drewN m :=
  (has_any q n k _ (((up_drew (Below.refl _ w) a).cell (World.block_lt_of_cell? w _ hc)).trans hc)).mono fun _ _ ⟨he, hw⟩ => ⟨hb ▸ he, a, hw.symm⟩
theorem bit_quiet (k : Nat) (w : World) (a : Nat) (hk : k ≤ 4096) :
    Calls Tryd.prog 90 #[.int .i64 (k : Int)] (w.drewN a) fun e w' => e = .returned (.int .u64 (u (1#64 <<< (k % 64)))) ∧ ∃ m, w' = w.drewN m :=
  (bit_any k hk _).mono fun _ _ ⟨he, hw⟩ => ⟨he, a, hw.symm⟩

theorem test_no (q n : Nat) (k : Int) (w : World) (hc : w.cell? ⟨q, 0, none⟩ = some (.int .i64 (n : Int))) (hno : hasB n k = false) :
    Calls Tryd.prog 56 #[.pointer (some ⟨q, 0, none⟩), .int .i64 k] w fun e w' => e = .returned (.bool false) ∧ Drawn w w' := by
  go_enter Tryd.func56, Tryd.ntmps56
  go_wp2_with fail
  go_quiet ((go_at_call 89; exact has_quiet q n _ _ _ _ hc hno))
  go_wp2
  go_ret
  exact ⟨rfl, _, rfl⟩
theorem test_yes (q g n L k : Nat) (x : BitVec 64) (w : World) (hc : w.cell? ⟨q, 0, none⟩ = some (.int .i64 (n : Int))) (hs : w.cell? ⟨q, 1, none⟩ = some (.slice (some ⟨g, 0, none⟩) L L))
    (hx : w.cell? ⟨g, k / 64, none⟩ = some (.int .u64 (u x))) (hk : k < n) (hn : n ≤ 4096) (hL : k / 64 < L) :
    Calls Tryd.prog 56 #[.pointer (some ⟨q, 0, none⟩), .int .i64 (k : Int)] w fun e w' => e = .returned (.bool (x.getLsbD (k % 64))) ∧ Drawn w w' := by
  have hy : hasB n (k : Int) = true := hasB_iff.2 (by omega)
  have e1 := tdiv64 k
  obtain ⟨i, hi⟩ : ∃ i, k / 64 = i := ⟨_, rfl⟩
  rw [hi] at hx hL e1
  have HI := Lib.hid hi
  have k1 : (0 : Int) ≤ (i : Int) := by omega
  have k2 : (i : Int) < (L : Int) := by omega
  have hwi := i64_in (i : Int) (by omega) (by omega)
  clear hi
  go_enter Tryd.func56, Tryd.ntmps56
  go_wp2_with fail
  go_quiet ((first | (go_at_call 89; exact has_quiet q n _ _ _ _ hc hy) | (go_at_call 90; exact bit_quiet k _ _ (by omega))))
  go_wp2
  go_ret
  exact ⟨ret_b (bit_raw2 x (k % 64) (by omega)), _, rfl⟩
theorem fits_lt {l : List Bool} {ws : List (BitVec 64)} (h : Fits l ws) {k : Nat} (hk : k < l.length) : k / 64 < ws.length := by have := h.1; omega
theorem fits_at {l : List Bool} {ws : List (BitVec 64)} (h : Fits l ws) (k : Nat) : (ws.getD (k / 64) 0#64).getLsbD (k % 64) = l.getD k false := by
  rw [h.2 _ _ (by omega)]; congr 1; omega
theorem test_any (q g : Nat) (l : List Bool) (ws : List (BitVec 64)) (k : Int) (w : World) (hm : Bits w q g l ws) :
    Calls Tryd.prog 56 #[.pointer (some ⟨q, 0, none⟩), .int .i64 k] w fun e w' => e = .returned (.bool (tst l k)) ∧ Drawn w w' := by
  unfold tst
  cases h : hasB l.length k
  · exact test_no q _ k w hm.n h
  · obtain ⟨h0, h1⟩ := hasB_iff.1 h
    obtain ⟨k, rfl⟩ := Int.eq_ofNat_of_zero_le h0
    have hk : k < l.length := by omega
    have := test_yes q g _ _ k _ w hm.n hm.words (hm.word (fits_lt hm.2.2.1 hk)) hk hm.2.2.2.1 (fits_lt hm.2.2.1 hk)
    rw [fits_at hm.2.2.1] at this
    simpa using this

/-- What is left behind a row whose bits have been turned. -/
def Turned (q g : Nat) (l : List Bool) (b : Bool) (w : World) (e : Ending) (w' : World) : Prop :=
  e = .returned (.bool b) ∧ (∃ ws, Bits w' q g l ws) ∧ w.grownBy w' (some g)
/-- A word of a row has been turned. -/
def Put (g i : Nat) (x : BitVec 64) (w : World) (e : Ending) (w' : World) : Prop := e = .returned (.bool true) ∧ ∃ wd, Drawn w wd ∧ Drawn (wd.setCell ⟨g, i, none⟩ (.int .u64 (u x))) w'
theorem ret_put {g i : Nat} {x : BitVec 64} {v : Int} {w wd : World} (hd : Drawn w wd) (e : v = u x) : Put g i x w (.returned (.bool true)) (wd.setCell ⟨g, i, none⟩ (.int .u64 v)).drew :=
  ⟨rfl, wd, hd, 1, by rw [e]; rfl⟩
theorem set_yes (q g n L k : Nat) (x : BitVec 64) (w : World) (hc : w.cell? ⟨q, 0, none⟩ = some (.int .i64 (n : Int))) (hs : w.cell? ⟨q, 1, none⟩ = some (.slice (some ⟨g, 0, none⟩) L L))
    (hx : w.cell? ⟨g, k / 64, none⟩ = some (.int .u64 (u x))) (hk : k < n) (hn : n ≤ 4096) (hL : k / 64 < L) (hoff : x.getLsbD (k % 64) = false) (hfz : w.frozen? ⟨g, k / 64, none⟩ = false) :
    Calls Tryd.prog 55 #[.pointer (some ⟨q, 0, none⟩), .int .i64 (k : Int)] w (Put g (k / 64) (x ||| 1#64 <<< (k % 64)) w) := by
  have hy : hasB n (k : Int) = true := hasB_iff.2 (by omega)
  have ht := test_yes q g n L k x w hc hs hx hk hn hL
  rw [hoff] at ht
  have HT := Lib.hid ht
  have e1 := tdiv64 k
  obtain ⟨i, hi⟩ : ∃ i, k / 64 = i := ⟨_, rfl⟩
  rw [hi] at hx hL e1 hfz ⊢
  have HI := Lib.hid hi
  have k1 : (0 : Int) ≤ (i : Int) := by omega
  have k2 : (i : Int) < (L : Int) := by omega
  have hwi := i64_in (i : Int) (by omega) (by omega)
  clear hi ht hoff
  go_enter Tryd.func55, Tryd.ntmps55
  go_wp2_with fail
  refine (has_any q n _ _ hc).mono ?_; rw [hy]; rintro e w' ⟨rfl, rfl⟩
  go_wp2_with fail
  refine HT.out.mono ?_; rintro e w' ⟨rfl, hdr⟩
  have HC := Lib.hid hc
  have r1 := (hdr.below.cell (World.block_lt_of_cell? w _ hs)).trans hs
  have r2 := (hdr.below.cell (World.block_lt_of_cell? w _ hx)).trans hx
  have r3 : w'.frozen? ⟨g, i, none⟩ = false := by rw [World.frozen?, hdr.heap]; exact hfz
  have HD := Lib.hid hdr
  clear hdr hc hs hx hfz
  go_wp2_with fail
  go_region_law (first | (go_simp; go_at_call 90; refine (bit_any k (by omega) _).mono ?_; rintro e w' ⟨rfl, rfl⟩))
  all_goals go_wp2
  all_goals go_ret
  all_goals exact ret_put HD.out (or_u _ _)
theorem set_was (q g n L k : Nat) (x : BitVec 64) (w : World) (hc : w.cell? ⟨q, 0, none⟩ = some (.int .i64 (n : Int))) (hs : w.cell? ⟨q, 1, none⟩ = some (.slice (some ⟨g, 0, none⟩) L L))
    (hx : w.cell? ⟨g, k / 64, none⟩ = some (.int .u64 (u x))) (hk : k < n) (hn : n ≤ 4096) (hL : k / 64 < L) (hon : x.getLsbD (k % 64) = true) :
    Calls Tryd.prog 55 #[.pointer (some ⟨q, 0, none⟩), .int .i64 (k : Int)] w fun e w' => e = .returned (.bool false) ∧ Drawn w w' := by
  have hy : hasB n (k : Int) = true := hasB_iff.2 (by omega)
  have ht := test_yes q g n L k x w hc hs hx hk hn hL
  rw [hon] at ht
  have HT := Lib.hid ht
  clear ht hon
  go_enter Tryd.func55, Tryd.ntmps55
  go_wp2_with fail
  refine (has_any q n _ _ hc).mono ?_; rw [hy]; rintro e w' ⟨rfl, rfl⟩
  go_wp2_with fail
  refine HT.out.mono ?_; rintro e w' ⟨rfl, hdr⟩
  go_wp2
  go_ret
  exact ⟨rfl, hdr⟩
theorem set_no (q n : Nat) (k : Int) (w : World) (hc : w.cell? ⟨q, 0, none⟩ = some (.int .i64 (n : Int))) (hno : hasB n k = false) :
    Calls Tryd.prog 55 #[.pointer (some ⟨q, 0, none⟩), .int .i64 k] w fun e w' => e = .returned (.bool false) ∧ Drawn w w' := by
  go_enter Tryd.func55, Tryd.ntmps55
  go_wp2_with fail
  refine (has_any q n _ _ hc).mono ?_; rw [hno]; rintro e w' ⟨rfl, rfl⟩
  go_wp2
  go_ret
  exact ⟨rfl, Drawn.refl _⟩
theorem put_turned {q g k : Nat} {l : List Bool} {ws : List (BitVec 64)} {w : World} {b : Bool} {x : BitVec 64} (hm : Bits w q g l ws) (hk : k < l.length)
    (hx : ∀ j, j < 64 → x.getLsbD j = if j = k % 64 then b else (ws.getD (k / 64) 0#64).getLsbD j) {e : Ending} {w' : World} (h : Put g (k / 64) x w e w') :
    Turned q g (l.set k b) true w e w' := by
  obtain ⟨rfl, wd, hd, hd2⟩ := h
  have g1 : w.grownBy (wd.setCell ⟨g, k / 64, none⟩ (.int .u64 (u x))) (some g) := grown_set (grown_below hd.below)
  have g2 : w.grownBy w' (some g) := grown_trans g1 (grown_below hd2.below)
  refine ⟨rfl, ⟨ws.set (k / 64) x, ?_, ?_, fits_set hm.2.2.1 k hk b x hx, by simpa using hm.2.2.2.1, hm.2.2.2.2⟩, g2⟩
  · have := hm.1.far g2 hm.ne
    simpa using this
  · have h1 : Blk wd g (wrow ws) 22 := hm.2.1.below hd.below
    have h2 := h1.set (i := k / 64) (.int .u64 (u x))
    rw [wrow_set] at h2
    exact h2.below hd2.below
theorem drawn_turned {q g : Nat} {l l' : List Bool} {ws : List (BitVec 64)} {w : World} (hm : Bits w q g l ws) (hl : l' = l) {e : Ending} {w' : World} (h : e = .returned (.bool false) ∧ Drawn w w') : Turned q g l' false w e w' := by
  subst hl
  exact ⟨h.1, ⟨ws, hm.below h.2.below⟩, grown_below h.2.below⟩
/-- The row behind Set or Clear, and what is answered. -/
def setL (l : List Bool) (k : Int) (b : Bool) : List Bool := if hasB l.length k then l.set k.toNat b else l
def setB (l : List Bool) (k : Int) (b : Bool) : Bool := hasB l.length k && (l.getD k.toNat false != b)
theorem setL_length (l : List Bool) (k : Int) (b : Bool) : (setL l k b).length = l.length := by unfold setL; split <;> simp
theorem set_same (l : List Bool) (k : Nat) (b : Bool) (h : l.getD k false = b) (hk : k < l.length) : l.set k b = l := by
  apply List.ext_getElem?
  intro i
  rw [List.getElem?_set]
  split
  · rename_i e
    subst e
    first | rw [if_pos hk] | skip
    rw [← h, List.getD_eq_getElem?_getD, List.getElem?_eq_getElem hk]; rfl
  · rfl
theorem set_any (q g : Nat) (l : List Bool) (ws : List (BitVec 64)) (k : Int) (w : World) (hm : Bits w q g l ws) :
    Calls Tryd.prog 55 #[.pointer (some ⟨q, 0, none⟩), .int .i64 k] w (Turned q g (setL l k true) (setB l k true) w) := by
  unfold setL setB
  cases h : hasB l.length k
  · rw [if_neg (by simp)]
    exact (set_no q _ k w hm.n h).mono fun e w' he => drawn_turned hm rfl he
  · obtain ⟨h0, h1⟩ := hasB_iff.1 h
    obtain ⟨k, rfl⟩ := Int.eq_ofNat_of_zero_le h0
    have hk : k < l.length := by omega
    have hw := fits_lt hm.2.2.1 hk
    rw [if_pos rfl, Int.toNat_natCast, Bool.true_and]
    cases hb : l.getD k false
    · refine (set_yes q g _ _ k _ w hm.n hm.words (hm.word hw) hk hm.2.2.2.1 hw (by rw [fits_at hm.2.2.1]; exact hb) (hm.2.1.frozen _)).mono fun e w' he => put_turned hm hk (fun j hj => ?_) he
      rw [BitVec.getLsbD_or, BitVec.getLsbD_shiftLeft]
      by_cases e : j = k % 64
      · subst e; simp [hj]
      · rw [if_neg e]
        by_cases e2 : j < k % 64
        · simp [e2]
        · have : j - k % 64 ≠ 0 := by omega
          simp [this]
    · refine (set_was q g _ _ k _ w hm.n hm.words (hm.word hw) hk hm.2.2.2.1 hw (by rw [fits_at hm.2.2.1]; exact hb)).mono fun e w' he => drawn_turned hm (set_same l k true hb hk) he
end Go.Proofs.YtaelfgdiboekpaaDoor.Bi
