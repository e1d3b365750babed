/-
  What Move does: a contract that the claimed proofs use.
-/
import Derived.Test.YtdkjbidnelbdeaaRows2
namespace Go.Proofs.Ytdkjbidnelbdeaa
open Go.RowKit

/-- copy as one step of a region that draws its order. -/
theorem step_copy {w : World} {ops : Array Oper} {o : Oper} {a : Act} {K : Act → World → Prop} {Q : Exit → Act → World → Prop} {E : Prop} (hgd : o.guard = none) (d s : Operand)
    (ho : o.op = .call { callee := .builtin .copy, args := #[d, s], argTypes := #[29, 29] })
    (dp sp : Option Addr) (dLen dCap sLen sCap : Nat) (hd : a.eval d = .slice dp dLen dCap) (hs : a.eval s = .slice sp sLen sCap)
    (g off : Nat) (cur cs : List (BitVec 8)) (hg : Row w g cur) (hn : cs.length = Nat.min sLen dLen)
    (hpos : 0 < cs.length → dp = some ⟨g, off, none⟩ ∧ ∃ sb so, sp = some ⟨sb, so, none⟩ ∧ ∀ j, j < cs.length → w.cell? ⟨sb, so + j, none⟩ = some (.int .u8 (y (cs.getD j 0#8))))
    (hfit : off + cs.length ≤ cur.length)
    (h : ∀ w', Hid (Row w' g (splice cur off cs)) → Hid (w.grownBy w' (some g)) → K (a.put o.dst (goInt cs.length)) w') :
    if Region.wanted o (yielded ops a.tmps) = true then Oper.wp Try.prog o a w K Q else E := by
  rw [if_pos (by simp [Region.wanted, hgd])]
  obtain ⟨w', hr, h1, h2⟩ := copy_run w o.type dp sp dLen dCap sLen sCap g off cur cs hg hn hpos hfit
  unfold Oper.wp
  simp [execOp, ho, resolve, invoke, builtin, hd, hs, hr, Result.andThen]
  exact h _ h1 h2

theorem i64_in (n : Int) (h0 : 0 ≤ n) (h1 : n ≤ 4611686018427387904) : IntKind.i64.wrap n = n := by rw [IntKind.wrap_i64]; omega
theorem move_no (q g L : Nat) (t s n : Int) (w : World) (hc : w.cell? ⟨q, 0, none⟩ = some (.slice (some ⟨g, 0, none⟩) L L)) (hL : L ≤ 1048576) (hs : s ≤ 9223372036854775807) (ht : t ≤ 9223372036854775807) (hno : (hasB L t n && hasB L s n) = false) :
    Calls Try.prog 22 #[.pointer (some ⟨q, 0, none⟩), .int .i64 t, .int .i64 s, .int .i64 n] w fun e w' => e = .returned (.int .i64 11) ∧ w = w' := by
  cases hw : hasB L t n
  · go_enter Try.func22, Try.ntmps22
    go_wp2_with (go_at_call 25; refine (has_any q g L t _ _ hc hL ht).mono ?_; rw [hw]; rintro e w' ⟨rfl, rfl⟩)
    go_ret
    exact ⟨rfl, rfl⟩
  · rw [hw, Bool.true_and] at hno
    go_enter Try.func22, Try.ntmps22
    go_wp2_with fail
    refine (has_any q g L t _ _ hc hL ht).mono ?_; rw [hw]; rintro e w' ⟨rfl, rfl⟩
    go_wp2_with fail
    refine (has_any q g L s _ _ hc hL hs).mono ?_; rw [hno]; rintro e w' ⟨rfl, rfl⟩
    go_wp2
    go_ret
    exact ⟨rfl, rfl⟩
theorem move_yes (q g : Nat) (bs : List (BitVec 8)) (t s n : Nat) (w : World) (hm : Mem w q g bs) (ht : t + n ≤ bs.length) (hs : s + n ≤ bs.length) (hp : 0 < n) :
    Calls Try.prog 22 #[.pointer (some ⟨q, 0, none⟩), .int .i64 (t : Int), .int .i64 (s : Int), .int .i64 (n : Int)] w (Wrote q g (splice bs t (sub bs s n)) 0 w) := by
  have hc := hm.cell
  have hL := hm.2.2
  have HM := Lib.hid hm
  have hb1 : hasB bs.length t n = true := hasB_iff.2 ⟨by omega, by omega, by omega⟩
  have hb2 : hasB bs.length s n = true := hasB_iff.2 ⟨by omega, by omega, by omega⟩
  clear hm
  obtain ⟨L, hl⟩ : ∃ L, bs.length = L := ⟨_, rfl⟩
  have HL := Lib.hid hl
  rw [hl] at hc hL hb1 hb2 hs ht
  clear hl
  have hwr := i64_in ((s : Int) + (n : Int)) (by omega) (by omega)
  have k1 : t ≤ L := by omega
  have k2 : ¬ L = t := by omega
  have k3 : s ≤ L := by omega
  have k4 : ¬ L = s := by omega
  have k5 : 0 ≤ (s : Int) + (n : Int) := by omega
  have k6 : (s : Int) + (n : Int) ≤ (L : Int) := by omega
  have k7 : ((s : Int) + (n : Int)).toNat = s + n := by omega
  go_enter Try.func22, Try.ntmps22
  go_wp2_with fail
  refine (has_any q g L t _ _ hc hL (by omega)).mono ?_; rw [hb1]; rintro e w' ⟨rfl, rfl⟩
  go_wp2_with fail
  refine (has_any q g L s _ _ hc hL (by omega)).mono ?_; rw [hb2]; rintro e w' ⟨rfl, rfl⟩
  go_wp2_with fail
  go_region_law (refine step_copy rfl (.tmp 26) (.tmp 35) rfl (some ⟨g, t, none⟩) (some ⟨g, s, none⟩) (L - t) (L - t) n (L - s) rfl rfl g t bs (sub bs s n) HM.out.2.1 (by rw [sub_length (by rw [HL.out]; exact hs)]; exact (Nat.min_eq_left (by omega)).symm) (fun _ => ⟨rfl, g, s, rfl, fun j hj => by rw [sub_length (by rw [HL.out]; exact hs)] at hj; rw [sub_getD hj]; exact HM.out.2.1.cell (by rw [HL.out]; omega)⟩) (by rw [sub_length (by rw [HL.out]; exact hs), HL.out]; exact ht) ?_; intro w4 hrow hgr)
  all_goals go_wp2
  all_goals go_ret
  all_goals have e := sub_length (bs := bs) (s := s) (n := n) (by rw [HL.out]; exact hs)
  all_goals exact ⟨rfl, HM.out.turned (grown_trans (grown_drew (grown_refl _ _)) hgr.out) hrow.out (splice_length (by rw [e, HL.out]; exact ht)), grown_trans (grown_drew (grown_refl _ _)) hgr.out⟩
theorem move_none (q g : Nat) (bs : List (BitVec 8)) (t s : Nat) (w : World) (hm : Mem w q g bs) (ht : t ≤ bs.length) (hs : s ≤ bs.length) :
    Calls Try.prog 22 #[.pointer (some ⟨q, 0, none⟩), .int .i64 (t : Int), .int .i64 (s : Int), .int .i64 0] w (Wrote q g bs 0 w) := by
  have hc := hm.cell
  have hL := hm.2.2
  have HM := Lib.hid hm
  have hb1 : hasB bs.length t 0 = true := hasB_iff.2 ⟨by omega, by omega, by omega⟩
  have hb2 : hasB bs.length s 0 = true := hasB_iff.2 ⟨by omega, by omega, by omega⟩
  clear hm
  obtain ⟨L, hl⟩ : ∃ L, bs.length = L := ⟨_, rfl⟩
  have HL := Lib.hid hl
  rw [hl] at hc hL hb1 hb2 hs ht
  clear hl
  have hw1 := i64_in (s : Int) (by omega) (by omega)
  have hw2 := i64_in (L : Int) (by omega) (by omega)
  by_cases e1 : L = t
  · subst e1
    by_cases e2 : L = s
    · subst e2
      go_enter Try.func22, Try.ntmps22
      go_wp2_with fail
      refine (has_any q g L _ _ _ hc hL (by omega)).mono ?_; rw [hb1]; rintro e w' ⟨rfl, rfl⟩
      go_wp2_with fail
      refine (has_any q g L _ _ _ hc hL (by omega)).mono ?_; rw [hb2]; rintro e w' ⟨rfl, rfl⟩
      go_wp2_with fail
      go_region_law (refine step_copy rfl (.tmp 26) (.tmp 35) rfl (some ⟨g, 0, none⟩) (some ⟨g, 0, none⟩) 0 0 0 0 rfl rfl g 0 bs [] HM.out.2.1 rfl (by simp) (by simp) ?_; intro w4 hrow hgr)
      all_goals go_wp2
      all_goals go_ret
      all_goals rw [splice_nil] at hrow
      all_goals exact ⟨rfl, HM.out.turned (grown_trans (grown_drew (grown_refl _ _)) hgr.out) hrow.out rfl, grown_trans (grown_drew (grown_refl _ _)) hgr.out⟩
    · go_enter Try.func22, Try.ntmps22
      go_wp2_with fail
      refine (has_any q g L _ _ _ hc hL (by omega)).mono ?_; rw [hb1]; rintro e w' ⟨rfl, rfl⟩
      go_wp2_with fail
      refine (has_any q g L _ _ _ hc hL (by omega)).mono ?_; rw [hb2]; rintro e w' ⟨rfl, rfl⟩
      go_wp2_with fail
      go_region_law (refine step_copy rfl (.tmp 26) (.tmp 35) rfl (some ⟨g, 0, none⟩) (some ⟨g, s, none⟩) 0 0 0 (L - s) rfl rfl g 0 bs [] HM.out.2.1 rfl (by simp) (by simp) ?_; intro w4 hrow hgr)
      all_goals go_wp2
      all_goals go_ret
      all_goals rw [splice_nil] at hrow
      all_goals exact ⟨rfl, HM.out.turned (grown_trans (grown_drew (grown_refl _ _)) hgr.out) hrow.out rfl, grown_trans (grown_drew (grown_refl _ _)) hgr.out⟩
  · by_cases e2 : L = s
    · subst e2
      go_enter Try.func22, Try.ntmps22
      go_wp2_with fail
      refine (has_any q g L _ _ _ hc hL (by omega)).mono ?_; rw [hb1]; rintro e w' ⟨rfl, rfl⟩
      go_wp2_with fail
      refine (has_any q g L _ _ _ hc hL (by omega)).mono ?_; rw [hb2]; rintro e w' ⟨rfl, rfl⟩
      go_wp2_with fail
      go_region_law (refine step_copy rfl (.tmp 26) (.tmp 35) rfl (some ⟨g, t, none⟩) (some ⟨g, 0, none⟩) (L - t) (L - t) 0 0 rfl rfl g 0 bs [] HM.out.2.1 (by simp) (by simp) (by simp) ?_; intro w4 hrow hgr)
      all_goals go_wp2
      all_goals go_ret
      all_goals rw [splice_nil] at hrow
      all_goals exact ⟨rfl, HM.out.turned (grown_trans (grown_drew (grown_refl _ _)) hgr.out) hrow.out rfl, grown_trans (grown_drew (grown_refl _ _)) hgr.out⟩
    · go_enter Try.func22, Try.ntmps22
      go_wp2_with fail
      refine (has_any q g L _ _ _ hc hL (by omega)).mono ?_; rw [hb1]; rintro e w' ⟨rfl, rfl⟩
      go_wp2_with fail
      refine (has_any q g L _ _ _ hc hL (by omega)).mono ?_; rw [hb2]; rintro e w' ⟨rfl, rfl⟩
      go_wp2_with fail
      go_region_law (refine step_copy rfl (.tmp 26) (.tmp 35) rfl (some ⟨g, t, none⟩) (some ⟨g, s, none⟩) (L - t) (L - t) 0 (L - s) rfl rfl g 0 bs [] HM.out.2.1 (by simp) (by simp) (by simp) ?_; intro w4 hrow hgr)
      all_goals go_wp2
      all_goals go_ret
      all_goals rw [splice_nil] at hrow
      all_goals exact ⟨rfl, HM.out.turned (grown_trans (grown_drew (grown_refl _ _)) hgr.out) hrow.out rfl, grown_trans (grown_drew (grown_refl _ _)) hgr.out⟩

end Go.Proofs.Ytdkjbidnelbdeaa
