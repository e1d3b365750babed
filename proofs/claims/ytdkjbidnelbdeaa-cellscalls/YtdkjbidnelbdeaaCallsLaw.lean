/-
  The walk of the statement on rows of calls.
-/
import Derived.Test.YtdkjbidnelbdeaaToldAny
import Derived.Test.YtdkjbidnelbdeaaDiffLaw
namespace Go.Proofs.Ytdkjbidnelbdeaa
open Go.RowKit

/-- What both Loads answer. -/
def ldV (bs : List (BitVec 8)) (s k : Int) : BitVec 64 := if widthB k && hasB bs.length s k then ldW bs s.toNat k.toNat else 0#64
def ldE (L : Nat) (s k : Int) : Int := if widthB k && hasB L s k then 0 else 11
theorem load_any (q g : Nat) (bs : List (BitVec 8)) (s k : Int) (w : World) (hm : Mem w q g bs) (hs : s ≤ 9223372036854775807) :
    Calls Try.prog 11 #[.pointer (some ⟨q, 0, none⟩), .int .i64 s, .int .i64 k] w fun e w' => e = .returned (.tuple #[.int .u64 (u (ldV bs s k)), .int .i64 (ldE bs.length s k)]) ∧ w = w' := by
  unfold ldV ldE
  cases hno : widthB k && hasB bs.length s k
  · exact load_no q g _ s k w hm.cell hm.2.2 hs hno
  · rw [Bool.and_eq_true] at hno
    obtain ⟨a0, a1, a2⟩ := hasB_iff.1 hno.2
    obtain ⟨s, rfl⟩ := Int.eq_ofNat_of_zero_le a0
    obtain ⟨k, rfl⟩ := Int.eq_ofNat_of_zero_le a1
    exact load_yes q g bs s k w hm hno.1 (by omega)
theorem rload_any (b c N : Nat) (bs : List (BitVec 8)) (s k : Int) (w : World) (hb : BA N w (some ⟨b, 0, none⟩) bs) (hL : bs.length ≤ 1048576) (hs : s ≤ 9223372036854775807) :
    Calls Try.prog 12 #[.slice (some ⟨b, 0, none⟩) bs.length c, .int .i64 s, .int .i64 k] w fun e w' => e = .returned (.tuple #[.int .u64 (u (ldV bs s k)), .int .i64 (ldE bs.length s k)]) ∧ w = w' := by
  unfold ldV ldE
  cases hno : widthB k && hasB bs.length s k
  · exact rload_no _ _ c s k w hL hs hno
  · rw [Bool.and_eq_true] at hno
    obtain ⟨a0, a1, a2⟩ := hasB_iff.1 hno.2
    obtain ⟨s, rfl⟩ := Int.eq_ofNat_of_zero_le a0
    obtain ⟨k, rfl⟩ := Int.eq_ofNat_of_zero_le a1
    have hk := widthB_iff.1 hno.1
    obtain ⟨b', o', e, _, hc⟩ := hb (by omega)
    cases e
    exact rload_yes b 0 bs c s k w hc hL hno.1 (by omega)
theorem replicate_BA (w : World) (n : Nat) : BA (w.alloc (.cells (madeCells #[.int .u8 0] n) 5)).heap.size (w.alloc (.cells (madeCells #[.int .u8 0] n) 5)) (some ⟨w.heap.size, 0, none⟩) (List.replicate n 0#8) := BA.row (Row.made w n)

/-- What holds ahead of a round. -/
def Inv (w wr : World) (q g n : Nat) (bs : List (BitVec 8)) (bb cc : Nat) : Prop :=
  bs.length = n ∧ n ≤ cc ∧ bb ≠ g ∧ Mem wr q g bs ∧ BA wr.heap.size wr (some ⟨bb, 0, none⟩) bs ∧ Below w.heap.size w wr

set_option maxRecDepth 100000 in
set_option maxHeartbeats 16000000 in
theorem calls_main (n : Nat) (A : Option Addr) (l : List Cl) (c : Nat) (s k : Int) (w : World) (hcs : CS w.heap.size w A l) (hn : n ≤ 2000) (hl : l.length ≤ 60) (hs : s ≤ 9223372036854775807)
    (hgr : ∀ w1 : World, Below w.heap.size w w1 → Calls Try.prog 7 #[.int .i64 (n : Int), .slice A l.length c] w1 fun e w' => e = .returned (.bool false) ∧ w1 = w') :
    Calls Try.prog 3 #[.int .i64 (n : Int), .slice A l.length c, .int .i64 s, .int .i64 k] w fun e w' => e = .returned (.bool true) ∧ Below w.heap.size w w' := by
  have HC := Lib.hid hcs
  have HGR := Lib.hid hgr
  clear hcs hgr
  obtain ⟨L, hL⟩ : ∃ L, l.length = L := ⟨_, rfl⟩
  have HL := Lib.hid hL
  rw [hL] at hl HGR ⊢
  clear hL
  have hmk := make_bytes n (by omega)
  go_enter Try.func3, Try.ntmps3
  go_wp2_with fail
  refine (alive_any _).mono ?_
  rintro e w1 ⟨rfl, B1⟩
  have s1 := B1.size
  go_wp2_with fail
  refine (HGR.out _ B1).mono ?_
  rintro e w2 ⟨rfl, rfl⟩
  go_wp2_with fail
  refine (new_any n (by omega) _).mono ?_
  rintro e w2 ⟨rfl, m2, b2⟩
  have B2 := up_trans B1 b2
  have z2 := m2.lt
  clear b2 B1
  have hinv : Inv w (w2.alloc (.cells (madeCells #[.int .u8 0] n) 5)) (w1.heap.size + 1) w1.heap.size n (List.replicate n 0#8) w2.heap.size n :=
    ⟨by simp, Nat.le_refl _, by omega, m2.below (up_alloc (Below.refl _ _) _), replicate_BA w2 n, up_alloc B2 _⟩
  have HI := Lib.hid hinv
  clear hinv m2 B2
  go_wp2_with fail
  clear hmk
  go_loopw [11, 12] (fun b i wr => ∃ (j : Nat) (bs : List (BitVec 8)) (bb cc : Nat), j ≤ L ∧ i = .int .i64 j ∧ b = .slice (some ⟨bb, 0, none⟩) n cc ∧ Inv w wr (w1.heap.size + 1) w1.heap.size n bs bb cc) (fun _ i _ => L - (intOf i).toNat)
  case atStart => exact ⟨0, _, _, _, by omega, rfl, rfl, HI.out⟩
  case round =>
    obtain ⟨j, bs, bb, cc, hj, rfl, rfl, hinv⟩ := hrel
    have HV := Lib.hid hinv
    clear hinv HI
    by_cases hlt : j < L
    · obtain ⟨cb, co, rfl, hcb, hcl⟩ := (HC.out.below HV.out.2.2.2.2.2) (by rw [HL.out]; omega)
      obtain ⟨hat, hok⟩ := hcl j (by rw [HL.out]; exact hlt)
      clear hcl
      obtain ⟨x, hx⟩ : ∃ x, l.getD j cl0 = x := ⟨_, rfl⟩
      rw [hx] at hat hok
      clear hx
      obtain ⟨what, xs, xn, xf, xk, xv, X, xb, xd⟩ := x
      obtain ⟨c0, c1, c2, c3, c4, c5, c6⟩ := hat
      obtain ⟨ok1, ok2, ok3, ok4⟩ := hok
      have htold := told_any (w1.heap.size + 1) w1.heap.size bb cc w.heap.size bs xb what xs xn xf xk xv X xd wr HV.out.2.2.2.1 HV.out.2.2.2.2.1 (by rw [HV.out.1]; exact HV.out.2.1) HV.out.2.2.1 HV.out.2.2.2.2.2.size s1 ok1 ok2 ok3 ok4
      rw [HV.out.1] at htold
      have HT := Lib.hid htold
      obtain ⟨xl, hxl⟩ : ∃ xl, xb.length = xl := ⟨_, rfl⟩
      simp only at c0 c1 c2 c3 c4 c5 c6
      rw [hxl] at c6 HT
      clear htold ok1 ok2 ok3 ok4 hxl
      go_wp2_with fail
      refine HT.out.mono ?_
      rintro e w3 ⟨bs3, b3, c3', hl3, rfl, hc3, hne3, m3, ba3, be3⟩
      have B3 := HV.out.2.2.2.2.2.trans be3
      clear be3 HT c0 c1 c2 c3 c4 c5 c6 HV
      go_wp2_with fail
      refine (read_all _ _ n bs3 _ m3 hl3).mono ?_
      rintro e w4 ⟨rfl, r4, b4⟩
      have m4 := m3.below b4
      have ba4 := (ba3.below b4).more b4.size
      have B4 := up_trans B3 b4
      have hrl := rload_any b3 c3' _ bs3 s k w4 ba4 m4.2.2 hs
      have hll := load_any (w1.heap.size + 1) w1.heap.size bs3 s k w4 m4 hs
      rw [hl3] at hrl hll
      obtain ⟨V, hV⟩ : ∃ V, ldV bs3 s k = V := ⟨_, rfl⟩
      obtain ⟨E, hE⟩ : ∃ E, ldE n s k = E := ⟨_, rfl⟩
      rw [hV, hE] at hrl hll
      have hvv : (u V != u V) = false := by simp
      have hee : (E != E) = false := by simp
      have HRL := Lib.hid hrl
      have HLL := Lib.hid hll
      have HV2 : Hid (Inv w w4 (w1.heap.size + 1) w1.heap.size n bs3 b3 c3') := ⟨hl3, hc3, hne3, m4, ba4, B4⟩
      have R4 := Lib.hid r4
      clear hrl hll hV hE r4 ba4 B4 m4 b4 m3 ba3 B3 hl3 hc3 hne3
      go_wp2_with fail
      refine HLL.out.mono ?_
      rintro e w5 ⟨rfl, rfl⟩
      go_wp2_with fail
      refine HRL.out.mono ?_
      rintro e w5 ⟨rfl, rfl⟩
      go_wp2_with fail
      refine (same_n _ _ bs3 n _ c3' _ _ _ (BA.row R4.out) HV2.out.2.2.2.2.1 HV2.out.1 (by omega)).mono ?_
      rintro e w6 ⟨rfl, d6⟩
      have HD := Lib.hid d6
      clear d6
      go_wp2
      go_roundw
      case rel => exact ⟨j + 1, bs3, b3, c3', by omega, by go_num, rfl, HV2.out.1, HV2.out.2.1, HV2.out.2.2.1, HV2.out.2.2.2.1.below (HD.out.below _), (HV2.out.2.2.2.2.1.below (HD.out.below _)).more (HD.out.below 0).size, HV2.out.2.2.2.2.2.trans (HD.out.below _)⟩
      case measure => simp [intOf]; omega
    · obtain rfl : j = L := by omega
      have hcell := HV.out.2.2.2.1.cell
      rw [HV.out.1] at hcell
      cases hin : hasB n s k
      · go_wp2_with fail
        refine (read_no _ _ n s k _ hcell (by omega) hs hin).mono ?_
        rintro e w3 ⟨rfl, rfl⟩
        go_wp2_with fail
        refine (in_any n s k _ (by omega) hs).mono ?_
        rw [hin]
        rintro e w3 ⟨rfl, rfl⟩
        go_wp2_with fail
        refine (len_any _ _ n _ hcell).mono ?_
        rintro e w3 ⟨rfl, rfl⟩
        go_wp2
        go_ret
        exact ⟨rfl, HV.out.2.2.2.2.2⟩
      · obtain ⟨a0, a1, a2⟩ := hasB_iff.1 hin
        obtain ⟨s, rfl⟩ := Int.eq_ofNat_of_zero_le a0
        obtain ⟨k, rfl⟩ := Int.eq_ofNat_of_zero_le a1
        have hsk : s + k ≤ n := by omega
        have hcc := HV.out.2.1
        have hrd := read_yes (w1.heap.size + 1) w1.heap.size bs s k wr HV.out.2.2.2.1 (by rw [HV.out.1]; exact hsk)
        have hsl : (sub bs s k).length = k := sub_length (by rw [HV.out.1]; exact hsk)
        have HSL := Lib.hid hsl
        have HRD := Lib.hid hrd
        clear hrd hsl a0 a1 a2
        go_wp2_with fail
        refine HRD.out.mono ?_
        rintro e w3 ⟨he, r3, b3⟩
        rw [HSL.out] at he
        subst he
        have B3 := HV.out.2.2.2.2.2.trans (b3.mono HV.out.2.2.2.2.2.size)
        have ba3 := (HV.out.2.2.2.2.1.below b3).more b3.size
        have m3 := HV.out.2.2.2.1.below b3
        have hc3 := m3.cell
        rw [HV.out.1] at hc3
        have bs3 := ba3.sub s k (by rw [HV.out.1]; exact hsk)
        rw [Nat.zero_add] at bs3
        have R3 := Lib.hid r3
        have BS3 := Lib.hid bs3
        have BB3 := Lib.hid B3
        have MM3 := Lib.hid m3
        clear r3 bs3 B3 ba3 m3 b3 hcell HRD
        go_wp2_with fail
        refine (in_any n s k _ (by omega) hs).mono ?_
        rw [hin]
        rintro e w4 ⟨rfl, rfl⟩
        by_cases hcs : cc = s
        · obtain rfl : cc = s := hcs
          obtain rfl : k = 0 := by omega
          go_wp2_with fail
          refine (same_none _ _ _ _ _).mono ?_
          rintro e w5 ⟨rfl, d5⟩
          have hc5 := d5.cell hc3
          have HD := Lib.hid d5
          clear d5 hc3
          go_wp2_with fail
          refine (len_any _ _ n _ hc5).mono ?_
          rintro e w6 ⟨rfl, rfl⟩
          go_wp2
          go_ret
          exact ⟨rfl, BB3.out.trans (HD.out.below _)⟩
        · go_wp2_with fail
          refine (same_n _ _ (sub bs s k) k _ (cc - s) _ _ _ (BA.row R3.out) BS3.out HSL.out (by omega)).mono ?_
          rintro e w5 ⟨rfl, d5⟩
          have hc5 := d5.cell hc3
          have HD := Lib.hid d5
          clear d5 hc3
          go_wp2_with fail
          refine (len_any _ _ n _ hc5).mono ?_
          rintro e w6 ⟨rfl, rfl⟩
          go_wp2
          go_ret
          exact ⟨rfl, BB3.out.trans (HD.out.below _)⟩

set_option maxRecDepth 100000 in
set_option maxHeartbeats 2000000 in
theorem calls_great (n : Int) (A : Option Addr) (L c : Nat) (s k : Int) (w : World) (hgr : ∀ w1 : World, Below w.heap.size w w1 → Calls Try.prog 7 #[.int .i64 n, .slice A L c] w1 fun e w' => e = .returned (.bool true) ∧ w1 = w') :
    Calls Try.prog 3 #[.int .i64 n, .slice A L c, .int .i64 s, .int .i64 k] w fun e w' => e = .returned (.bool true) ∧ Below w.heap.size w w' := by
  have HGR := Lib.hid hgr
  clear hgr
  go_enter Try.func3, Try.ntmps3
  go_wp2_with fail
  refine (alive_any _).mono ?_
  rintro e w1 ⟨rfl, B1⟩
  go_wp2_with fail
  refine (HGR.out _ B1).mono ?_
  rintro e w2 ⟨rfl, rfl⟩
  go_wp2
  go_ret
  exact ⟨rfl, B1⟩
set_option maxRecDepth 100000 in
set_option maxHeartbeats 2000000 in
theorem calls_neg (n : Int) (A : Option Addr) (L c : Nat) (s k : Int) (w : World) (hn : n < 0) (hgr : ∀ w1 : World, Below w.heap.size w w1 → Calls Try.prog 7 #[.int .i64 n, .slice A L c] w1 fun e w' => e = .returned (.bool false) ∧ w1 = w') :
    Calls Try.prog 3 #[.int .i64 n, .slice A L c, .int .i64 s, .int .i64 k] w fun e w' => e = .returned (.bool true) ∧ Below w.heap.size w w' := by
  have HGR := Lib.hid hgr
  clear hgr
  go_enter Try.func3, Try.ntmps3
  go_wp2_with fail
  refine (alive_any _).mono ?_
  rintro e w1 ⟨rfl, B1⟩
  go_wp2_with fail
  refine (HGR.out _ B1).mono ?_
  rintro e w2 ⟨rfl, rfl⟩
  go_wp2_with fail
  refine (new_no n _ (.inl hn)).mono ?_
  rintro e w2 ⟨rfl, rfl⟩
  go_wp2
  go_ret
  exact ⟨rfl, B1⟩

end Go.Proofs.Ytdkjbidnelbdeaa
