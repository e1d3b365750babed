/-
  What the references' First, Run and Words do: contracts that the claimed proofs use.
-/
import Derived.Test.YthleflfljomeiaaDoorMates
namespace Go.Proofs.YthleflfljomeiaaDoor
open Go.RowKit

/-- A list of bits in its block. -/
theorem bits_at {w : World} {gl : Nat} {l : List Bool} (hb : Blk w gl (brow l) 4) : ∀ i, i < l.length → w.cell? ⟨gl, i, none⟩ = some (.bool (bt l i)) := fun i hi => by rw [hb.cell, brow_get hi]; rfl
theorem rfirst_far (gl : Nat) (n : Nat) (f : Int) (set : Bool) (w : World) (hf : (n : Int) ≤ f) :
    Calls Tryd.prog 17 #[.slice (some ⟨gl, 0, none⟩) n n, .int .i64 f, .bool set] w fun e w' => e = .returned (.int .i64 (-1)) ∧ w = w' := by
  have hd : decide (f < (n : Int)) = false := by simp; omega
  have h0 : 0 ≤ f := by omega
  go_enter Tryd.func17, Tryd.ntmps17
  go_wp2
  go_loop [7] (fun i => i = .int .i64 f) (fun _ => 0)
  case atStart => first | rfl | go_num
  case round =>
    obtain rfl := hrel
    go_wp2
    go_ret
    exact ⟨rfl, rfl⟩
theorem rfirst_near (gl F : Nat) (f : Int) (l : List Bool) (set : Bool) (w : World) (hb : Blk w gl (brow l) 4) (hl : l.length ≤ 4096) (hF : F ≤ l.length) (hf : f = F ∨ (f < 0 ∧ F = 0)) :
    Calls Tryd.prog 17 #[.slice (some ⟨gl, 0, none⟩) l.length l.length, .int .i64 f, .bool set] w fun e w' => e = .returned (.int .i64 (first l F set)) ∧ w = w' := by
  have HB := Lib.hid (bits_at hb)
  obtain ⟨n, hn⟩ : ∃ n, l.length = n := ⟨_, rfl⟩
  have HN := Lib.hid hn
  rw [hn] at HB hl hF ⊢
  clear hn hb
  rcases hf with rfl | ⟨hneg, rfl⟩
  all_goals (
    go_enter Tryd.func17, Tryd.ntmps17
    go_wp2
    go_loop [7] (fun i => ∃ k : Nat, i = .int .i64 k ∧ k ≤ n ∧ IsFirst l k set (first l k set) ∧ first l _ set = first l k set) (fun i => n - (intOf i).toNat)
    case atStart => exact ⟨_, rfl, hF, isFirst_first _ _ _, rfl⟩
    case round =>
      obtain ⟨k, rfl, hk, _, hsame⟩ := hrel
      have HS := Lib.hid hsame
      clear hsame
      by_cases hlt : k < n
      · have q1 := HB.out k hlt
        obtain ⟨bv, hbv⟩ : ∃ b, bt l k = b := ⟨_, rfl⟩
        rw [hbv] at q1
        have HBv := Lib.hid hbv
        clear hbv
        by_cases he : bv = set
        · have hq : (bv == set) = true := by simpa using he
          have HE := Lib.hid he
          clear he
          go_wp2
          go_ret
          refine ⟨ret_i ?_, rfl⟩
          rw [HS.out]
          have := first_here (l := l) (k := k) (by rw [HN.out]; exact hlt)
          rw [HBv.out, HE.out] at this
          exact this.symm
        · have hq : (bv == set) = false := by simpa using he
          have HE := Lib.hid he
          clear he
          go_wp2
          go_round
          case rel =>
            refine ⟨k + 1, by go_num, by omega, isFirst_first _ _ _, ?_⟩
            rw [HS.out]
            refine isFirst_one (isFirst_first l k set) ?_
            rcases isFirst_first l (k + 1) set with ⟨h1, h2⟩ | ⟨j, h1, h2, h3, h4, h5⟩
            · refine Or.inl ⟨h1, fun j hj hl => ?_⟩
              by_cases e : j = k
              · rw [e, HBv.out]; exact HE.out
              · exact h2 j (by omega) hl
            · refine Or.inr ⟨j, h1, by omega, h3, h4, fun i hi hj => ?_⟩
              by_cases e : i = k
              · rw [e, HBv.out]; exact HE.out
              · exact h5 i (by omega) hj
          case measure => simp [intOf]; omega
      · obtain rfl : k = n := by omega
        go_wp2
        go_ret
        exact ⟨ret_i (by rw [HS.out, first_end (by rw [HN.out]; exact Nat.le_refl _)]), rfl⟩)
theorem rfirst_any (gl : Nat) (f : Int) (l : List Bool) (set : Bool) (w : World) (hb : Blk w gl (brow l) 4) (hl : l.length ≤ 4096) :
    Calls Tryd.prog 17 #[.slice (some ⟨gl, 0, none⟩) l.length l.length, .int .i64 f, .bool set] w fun e w' => e = .returned (.int .i64 (first l f.toNat set)) ∧ w = w' := by
  by_cases h : (l.length : Int) ≤ f
  · rw [first_end (by omega)]; exact rfirst_far gl _ f set w h
  · exact rfirst_near gl f.toNat f l set w hb hl (by omega) (by omega)
theorem rrun_neg (A : Option Addr) (n c : Nat) (f m : Int) (w : World) (hm : m < 1) :
    Calls Tryd.prog 20 #[.slice A n c, .int .i64 f, .int .i64 m] w fun e w' => e = .returned (.int .i64 (-1)) ∧ w = w' := by
  have hd : decide (m < 1) = true := by simpa using hm
  go_enter Tryd.func20, Tryd.ntmps20
  go_wp2
  go_ret
  exact ⟨rfl, rfl⟩
theorem rrun_yes (gl F M : Nat) (f : Int) (l : List Bool) (w : World) (hb : Blk w gl (brow l) 4) (hl : l.length ≤ 4096) (hM : 1 ≤ M) (hM63 : (M : Int) ≤ 9223372036854775807) (hf : f = F ∨ (f < 0 ∧ F = 0)) :
    Calls Tryd.prog 20 #[.slice (some ⟨gl, 0, none⟩) l.length l.length, .int .i64 f, .int .i64 (M : Int)] w fun e w' => e = .returned (.int .i64 (run l F M)) ∧ w = w' := by
  have HB := Lib.hid (bits_at hb)
  obtain ⟨n, hn⟩ : ∃ n, l.length = n := ⟨_, rfl⟩
  have HN := Lib.hid hn
  rw [hn] at HB hl ⊢
  clear hn hb
  have hd : decide ((M : Int) < 1) = false := by simp; omega
  have HF : Hid (f = (F : Int) ∨ F = 0) := by rcases hf with h | ⟨_, h⟩; exact Or.inl h; exact Or.inr h
  rcases hf with rfl | ⟨hneg, hF0⟩
  all_goals (
    (try clear hF0)
    go_enter Tryd.func20, Tryd.ntmps20
    go_wp2
    go_loop [7] (fun i => ∃ k : Nat, i = .int .i64 k ∧ F ≤ k ∧ (∀ j, F ≤ j → j < k → runB l M j = false)) (fun i => n + 1 - (intOf i).toNat)
    case atStart => first | exact ⟨F, rfl, Nat.le_refl _, fun j h1 h2 => by omega⟩ | (have h0 : F = 0 := (by rcases HF.out with h | h <;> omega); exact ⟨F, (by rw [h0]; rfl), Nat.le_refl _, fun j h1 h2 => by omega⟩)
    case round =>
      obtain ⟨k, rfl, hFk, hno⟩ := hrel
      have HNo := Lib.hid hno
      clear hno
      by_cases hin : (k : Int) ≤ (n : Int) - (M : Int)
      · have hd2 : decide ((k : Int) ≤ (n : Int) - (M : Int)) = true := by simpa using hin
        go_wp2
        go_loop [8] (fun i => ∃ j : Nat, i = .int .i64 j ∧ j ≤ M ∧ (∀ t, t < j → bt l (k + t) = false)) (fun i => M - (intOf i).toNat)
        case atStart => exact ⟨0, rfl, by omega, fun t ht => by omega⟩
        case round =>
          obtain ⟨j, rfl, hj, hcl⟩ := hrel
          have HCl := Lib.hid hcl
          clear hcl
          by_cases hjM : j < M
          · have q1 := HB.out (k + j) (by omega)
            cases hbv : bt l (k + j)
            · rw [hbv] at q1
              have HBv := Lib.hid hbv
              clear hbv
              go_wp2
              go_round
              case rel =>
                refine ⟨j + 1, by go_num, by omega, fun t ht => ?_⟩
                by_cases e : t = j
                · rw [e]; exact HBv.out
                · exact HCl.out t (by omega)
              case measure => simp [intOf]; omega
            · rw [hbv] at q1
              have HBv := Lib.hid hbv
              have hne : ((j : Int) == (M : Int)) = false := by simp; omega
              clear hbv
              go_wp2
              go_round
              case rel =>
                refine ⟨k + 1, by go_num, by omega, fun t h1 h2 => ?_⟩
                by_cases e : t = k
                · rw [e]; exact runB_no (j := k + j) (by omega) (by omega) HBv.out
                · exact HNo.out t h1 (by omega)
              case measure => simp [intOf]; omega
          · obtain rfl : j = M := by omega
            have hdj : decide ((j : Int) < (j : Int)) = false := by simp
            have heq : ((j : Int) == (j : Int)) = true := by simp
            go_wp2
            go_ret
            exact ⟨ret_i (isLeast_one (Or.inr ⟨k, rfl, hFk, by rw [HN.out]; omega, runB_iff.2 ⟨by rw [HN.out]; omega, HCl.out⟩, fun t h1 h2 => HNo.out t h1 h2⟩) (isLeast_run l _ j)), rfl⟩
      · have hd2 : decide ((k : Int) ≤ (n : Int) - (M : Int)) = false := by simpa using hin
        go_wp2
        go_ret
        refine ⟨ret_i (isLeast_one (Or.inl ⟨rfl, fun t h1 _ => ?_⟩) (isLeast_run l _ M)), rfl⟩
        by_cases h3 : t < k
        · exact HNo.out t h1 h3
        · exact runB_far (by rw [HN.out]; omega))
/-- What Run answers. -/
def runZ (l : List Bool) (f m : Int) : Int := if m < 1 then -1 else run l f.toNat m.toNat
theorem rrun_any (gl : Nat) (f m : Int) (l : List Bool) (w : World) (hb : Blk w gl (brow l) 4) (hl : l.length ≤ 4096) (hm : m ≤ 9223372036854775807) :
    Calls Tryd.prog 20 #[.slice (some ⟨gl, 0, none⟩) l.length l.length, .int .i64 f, .int .i64 m] w fun e w' => e = .returned (.int .i64 (runZ l f m)) ∧ w = w' := by
  unfold runZ
  by_cases h : m < 1
  · rw [if_pos h]; exact rrun_neg _ _ _ f m w h
  · rw [if_neg h]
    obtain ⟨M, rfl⟩ := Int.eq_ofNat_of_zero_le (by omega : 0 ≤ m)
    exact rrun_yes gl f.toNat M f l w hb hl (by omega) hm (by omega)
theorem run_any (q g : Nat) (f m : Int) (l : List Bool) (ws : List (BitVec 64)) (w : World) (hB : Bits w q g l ws) (hT : Tab w) (hm : m ≤ 9223372036854775807) :
    Calls Tryd.prog 19 #[.pointer (some ⟨q, 0, none⟩), .int .i64 f, .int .i64 m] w fun e w' => e = .returned (.int .i64 (runZ l f m)) ∧ w = w' := by
  unfold runZ
  by_cases h : m < 1
  · rw [if_pos h]; exact run_neg q f m w h
  · rw [if_neg h]
    obtain ⟨M, rfl⟩ := Int.eq_ofNat_of_zero_le (by omega : 0 ≤ m)
    exact run_yes q g M f l ws w hB hT (by omega) hm

/-! ### Words -/
/-- The first k bits, the others clear. -/
def cut (l : List Bool) (k : Nat) : List Bool := l.take k ++ List.replicate (l.length - k) false
theorem cut_length (l : List Bool) (k : Nat) : (cut l k).length = l.length := by simp [cut]; omega
theorem cut_get (l : List Bool) (k j : Nat) : (cut l k)[j]? = if j < l.length then some (decide (j < k) && bt l j) else none := by
  unfold cut
  rw [List.getElem?_append, List.length_take]
  by_cases h1 : j < l.length
  · rw [if_pos h1]
    by_cases h2 : j < k
    · rw [if_pos (by omega), List.getElem?_take, if_pos h2, List.getElem?_eq_getElem h1]
      simp [h2, bt, h1]
    · rw [if_neg (by omega), List.getElem?_replicate, if_pos (by omega)]; simp [h2]
  · rw [if_neg h1, if_neg (by omega), List.getElem?_replicate, if_neg (by omega)]
theorem cut_all (l : List Bool) : cut l l.length = l := by simp [cut]
theorem cut_none (l : List Bool) : cut l 0 = List.replicate l.length false := by simp [cut]
theorem cut_on {l : List Bool} {k : Nat} (hk : k < l.length) (h : bt l k = true) : cut l (k + 1) = (cut l k).set k true := by
  apply List.ext_getElem?
  intro j
  rw [List.getElem?_set, cut_get, cut_get, cut_length]
  by_cases e : k = j
  · subst e
    rw [if_pos rfl, if_pos hk, if_pos hk, h]; simp
  · rw [if_neg e]
    by_cases h1 : j < l.length
    · rw [if_pos h1, if_pos h1]
      have : decide (j < k + 1) = decide (j < k) := by rw [decide_eq_decide]; omega
      rw [this]
    · rw [if_neg h1, if_neg h1]
theorem cut_off {l : List Bool} {k : Nat} (h : bt l k = false) : cut l (k + 1) = cut l k := by
  apply List.ext_getElem?
  intro j
  rw [cut_get, cut_get]
  by_cases e : j = k
  · subst e; rw [h]; simp
  · have : decide (j < k + 1) = decide (j < k) := by rw [decide_eq_decide]; omega
    rw [this]
def GaveR (l : List Bool) (w : World) (e : Ending) (w' : World) : Prop :=
  ∃ ws, e = .returned (.slice (some ⟨w.heap.size, 0, none⟩) ws.length ws.length) ∧ Fits l ws ∧ Blk w' w.heap.size (wrow ws) 44 ∧ Below w.heap.size w w'
theorem rwords_any (gl : Nat) (l : List Bool) (w : World) (hb : Blk w gl (brow l) 4) (hl : l.length ≤ 4096) :
    Calls Tryd.prog 11 #[.slice (some ⟨gl, 0, none⟩) l.length l.length] w (GaveR l w) := by
  have hgl := hb.lt
  have HB := Lib.hid (bits_at hb)
  have hf0 := fits_none l.length
  rw [← cut_none] at hf0
  obtain ⟨n, hn⟩ : ∃ n, l.length = n := ⟨_, rfl⟩
  have HN := Lib.hid hn
  rw [hn] at HB hl hf0 ⊢
  obtain ⟨L, hL⟩ : ∃ L, (n + 63) / 64 = L := ⟨_, rfl⟩
  rw [hL] at hf0
  have HF0 := Lib.hid hf0
  have e1 : ((n : Int) + 63) / 64 = (L : Int) := by omega
  have hLb : n ≤ 64 * L := by omega
  have hL64 : L ≤ 64 := by omega
  have hmk := make_words L (by omega)
  have hmade := Blk.made w (.int .u64 0) L 44
  rw [wrow_none] at hmade
  have HM := Lib.hid hmade
  clear hn hb hL hf0 hmade
  go_enter Tryd.func11, Tryd.ntmps11
  go_wp2
  go_loopw [4] (fun i wr => ∃ (k : Nat) (ws : List (BitVec 64)), k ≤ n ∧ i = .int .i64 k ∧ ws.length = L ∧ Fits (cut l k) ws ∧ Blk wr w.heap.size (wrow ws) 44 ∧ Below w.heap.size w wr) (fun i _ => n - (intOf i).toNat)
  case atStart => exact ⟨0, _, by omega, rfl, by simp, HF0.out, HM.out, up_alloc (Below.refl _ _) _⟩
  case round =>
    obtain ⟨k, ws, hk, rfl, hwl, hfit, hblk, hbel⟩ := hrel
    have HWL := Lib.hid hwl
    have HFit := Lib.hid hfit
    have HBlk := Lib.hid hblk
    have HBel := Lib.hid hbel
    clear hwl hfit hblk hbel HF0 HM
    by_cases hlt : k < n
    · have q1 := (HBel.out.cell (p := ⟨gl, k, none⟩) hgl).trans (HB.out k hlt)
      cases hbv : bt l k
      · rw [hbv] at q1
        have HBv := Lib.hid hbv
        clear hbv
        go_wp2
        go_roundw
        case rel => exact ⟨k + 1, ws, by omega, by go_num, HWL.out, by rw [cut_off HBv.out]; exact HFit.out, HBlk.out, HBel.out⟩
        case measure => simp [intOf]; omega
      · rw [hbv] at q1
        have HBv := Lib.hid hbv
        clear hbv
        obtain ⟨i, hi⟩ : ∃ i, k / 64 = i := ⟨_, rfl⟩
        have e2 : (k : Int) / 64 = (i : Int) := by omega
        have hiL : i < L := by omega
        have HI := Lib.hid hi
        have q2 : wr.cell? ⟨w.heap.size, i, none⟩ = some (.int .u64 (u (ws.getD i 0#64))) := by rw [HBlk.out.cell, wrow_get (by rw [HWL.out]; exact hiL)]
        obtain ⟨x, hx⟩ : ∃ x, ws.getD i 0#64 = x := ⟨_, rfl⟩
        rw [hx] at q2
        have HX := Lib.hid hx
        have fz := HBlk.out.frozen i
        clear hi hx
        go_wp2
        go_roundw
        case rel =>
          rw [bit_raw, or_u]
          refine ⟨k + 1, ws.set i (x ||| 1#64 <<< (k % 64)), by omega, by go_num, by rw [List.length_set]; exact HWL.out, ?_, ?_, below_grown HBel.out (grown_set (grown_refl wr (some w.heap.size))) HBel.out.size (Nat.le_refl _)⟩
          · rw [cut_on (by rw [HN.out]; exact hlt) HBv.out, ← HI.out]
            refine fits_set HFit.out k (by rw [cut_length, HN.out]; exact hlt) true _ (fun j hj => ?_)
            rw [HI.out, HX.out, BitVec.getLsbD_or, BitVec.getLsbD_shiftLeft]
            by_cases e : j = k % 64
            · subst e; simp [hj]
            · rw [if_neg e]
              by_cases e2 : j < k % 64
              · simp [e2]
              · have : j - k % 64 ≠ 0 := by omega
                simp [this]
          · have := HBlk.out.set (i := i) (.int .u64 (u (x ||| 1#64 <<< (k % 64))))
            rw [wrow_set] at this
            exact this
        case measure => simp [intOf]; omega
    · obtain rfl : k = n := by omega
      go_wp2
      go_ret
      have hfit := HFit.out
      rw [← HN.out, cut_all] at hfit
      exact ⟨ws, by rw [HWL.out]; rfl, hfit, HBlk.out, HBel.out⟩
end Go.Proofs.YthleflfljomeiaaDoor
