/-
  What makes a slab: contracts that the claimed proofs use.
-/
import Derived.Test.YtiemgeflkmbfoaaDoorOsTell
namespace Go.Proofs.YtiemgeflkmbfoaaDoor.Os
set_option maxRecDepth 100000
open Go.RowKit
open Ta (sz szs classB classB_iff classB_not sizeOf' slotsOf)
open Bi (sets bt on first setL setB tst hasB u Blk Drawn grown_refl grown_trans grown_below up_alloc up_drew up_trans i64_in ret_i ret_b)

/-- A slab of which no slot is taken. -/
def l0 (c : Int) : List Bool := List.replicate (nS c) false
theorem l0_len (c : Int) : (l0 c).length = nS c := by simp [l0]
/-- What With answers where base and class are right. -/
def GaveWi (b c : Int) (xs : List Int) (w : World) (e : Ending) (w' : World) : Prop :=
  Below w.heap.size w w' ∧ ((wiB (l0 c) xs = true ∧ ∃ s q g, e = .returned (.tuple #[.pointer (some ⟨s, 0, none⟩), .int .i64 0]) ∧ Sl w' s q g b c (wiS (l0 c) xs) ∧ w.heap.size ≤ s ∧ w.heap.size ≤ g) ∨
    (wiB (l0 c) xs = false ∧ e = .returned (.tuple #[.pointer none, .int .i64 10])))
section
variable {w w' : World} {b c : Int}
theorem with_no (A : Option Addr) (n cap : Nat) (hT : Tb w) (h : (baseB b && classB c) = false) : Calls Tryd.prog 9 #[.int .i64 b, .int .i64 c, .slice A n cap] w fun e w' => e = .returned (.tuple #[.pointer none, .int .i64 11]) ∧ w = w' := by
  have HS := Lib.hid (Ta.size_any c w hT.cls)
  have HI := Lib.hid (isBase_any b w)
  clear hT
  cases hb : baseB b with
  | false =>
    rw [hb] at HI
    clear h hb
    go_enter Tryd.func9, Tryd.ntmps9
    go_wp2_with (first
      | (go_at_call 33; refine HI.out.mono ?_; rintro e w' ⟨rfl, rfl⟩))
    go_ret2
    exact ⟨rfl, rfl⟩
  | true =>
    rw [hb] at HI h
    have hz : sizeOf' c = 0 := Ta.sizeOf_no (by simpa using h)
    rw [hz] at HS
    clear h hb hz
    go_enter Tryd.func9, Tryd.ntmps9
    go_wp2_with (first
      | (go_at_call 33; refine HI.out.mono ?_; rintro e w' ⟨rfl, rfl⟩)
      | (go_at_call 34; refine HS.out.mono ?_; rintro e w' ⟨rfl, rfl⟩))
    go_ret2
    exact ⟨rfl, rfl⟩
set_option maxHeartbeats 2000000 in
theorem with_yes (A : Option Addr) (n cap : Nat) (xs : List Int) (hA : At w.heap.size w A (ints xs)) (hn : xs.length = n) (hn2 : n ≤ 1048576) (hT : Tb w) (hb : baseB b = true) (hc : classB c = true) :
    Calls Tryd.prog 9 #[.int .i64 b, .int .i64 c, .slice A n cap] w (GaveWi b c xs w) := by
  have HS := Lib.hid (Ta.size_any c w hT.cls)
  have HI := Lib.hid (isBase_any b w)
  have HL := Lib.hid (Ta.slots_any c w hT.cls)
  obtain ⟨z0, z1, n0, n1, _, e1, _⟩ := cls hc
  have hz : (sizeOf' c == 0) = false := by simp; omega
  have HN := Lib.hid (Bi.new_yes (nS c) (by omega) w hT.lt)
  unfold Bi.Newed at HN
  rw [hb] at HI
  rw [e1] at HL
  have HP : Hid (baseB b = true ∧ classB c = true ∧ 1 < w.heap.size) := ⟨hb, hc, hT.lt⟩
  have HA := Lib.hid hA
  have HX := Lib.hid hn
  obtain ⟨N, hN⟩ : ∃ N, nS c = N := ⟨_, rfl⟩
  have HNN := Lib.hid hN
  rw [hN] at HN HL n1
  obtain ⟨Z, hZ⟩ : ∃ Z, sizeOf' c = Z := ⟨_, rfl⟩
  rw [hZ] at HS hz
  clear hb hc hT hA hn z0 z1 n0 e1 hN hZ
  go_enter Tryd.func9, Tryd.ntmps9
  go_wp2_with (first
    | (go_at_call 33; refine HI.out.mono ?_; rintro e w' ⟨rfl, rfl⟩)
    | (go_at_call 34; refine HS.out.mono ?_; rintro e w' ⟨rfl, rfl⟩)
    | (go_at_call 36; refine HL.out.mono ?_; rintro e w' ⟨rfl, rfl⟩)
    | (go_at_call 35; refine HN.out.mono ?_; rintro e w1 ⟨rfl, m1, b1, s1⟩; have M1 := Lib.hid m1; have B1 := Lib.hid b1; clear m1 b1 s1))
  go_loopw [28] (fun i wr => ∃ (k : Nat) (l : List Bool) (ws : List (BitVec 64)), k ≤ n ∧ i = .int .i64 k ∧ Bi.Bits wr (w.heap.size + 1) w.heap.size l ws ∧ l.length = N ∧ wiB (l0 c) xs = wiB l (xs.drop k) ∧ wiS (l0 c) xs = wiS l (xs.drop k) ∧ Below w.heap.size w wr) (fun i _ => n - (intOf i).toNat)
  case atStart => exact ⟨0, _, _, by omega, rfl, M1.out, by simp, by rw [← HNN.out, List.drop_zero]; rfl, by rw [← HNN.out, List.drop_zero]; rfl, B1.out⟩
  case round =>
    obtain ⟨k, l, ws, hk, rfl, hm, hl, h1, h2, hbel⟩ := hrel
    have HM := Lib.hid hm
    have HLN := Lib.hid hl
    have H1 := Lib.hid h1
    have H2 := Lib.hid h2
    have HB := Lib.hid hbel
    clear hm hl h1 h2 hbel
    by_cases hlt : k < n
    · have hkl : k < xs.length := by rw [HX.out]; exact hlt
      obtain ⟨ab, ao, rfl, _, q0⟩ := (HA.out.below HB.out).int hkl
      have HD : Hid (xs.drop k = xs[k] :: xs.drop (k + 1)) := List.drop_eq_getElem_cons hkl
      obtain ⟨x, hx⟩ : ∃ x, xs[k] = x := ⟨_, rfl⟩
      rw [hx] at q0 HD
      have j1 : (0 : Int) ≤ (k : Int) := by omega
      have j2 : (k : Int) < (n : Int) := by omega
      have HSet := Lib.hid (Bi.set_any _ _ _ _ x wr HM.out)
      unfold Bi.Turned at HSet
      clear hx hkl
      cases hs : setB l x true with
      | true =>
        rw [hs] at HSet
        have HQ := Lib.hid hs
        clear hs
        go_wp2_with (go_at_call 37; refine HSet.out.mono ?_; rintro e w2 ⟨rfl, ⟨ws2, m2⟩, g2⟩; have M2 := Lib.hid m2; have B2 := Lib.hid (Bi.below_grown HB.out g2 HB.out.size (Nat.le_refl _)); clear m2 g2)
        go_roundw
        case rel => exact ⟨k + 1, setL l x true, ws2, by omega, by go_num, M2.out, by rw [Bi.setL_length]; exact HLN.out, by rw [H1.out, HD.out, wiB, HQ.out, Bool.true_and], by rw [H2.out, HD.out, wiS], B2.out⟩
        case measure => simp [intOf]; omega
      | false =>
        rw [hs] at HSet
        have HQ := Lib.hid hs
        clear hs
        go_wp2_with (go_at_call 37; refine HSet.out.mono ?_; rintro e w2 ⟨rfl, ⟨ws2, m2⟩, g2⟩; have B2 := Lib.hid (Bi.below_grown HB.out g2 HB.out.size (Nat.le_refl _)); clear m2 g2)
        go_ret2
        exact ⟨B2.out, .inr ⟨by rw [H1.out, HD.out, wiB, HQ.out, Bool.false_and], rfl⟩⟩
    · obtain rfl : k = n := by omega
      have hD : xs.drop k = [] := List.drop_eq_nil_of_le (by rw [HX.out]; exact Nat.le_refl _)
      have HE : Hid (wiB (l0 c) xs = true ∧ wiS (l0 c) xs = l) := ⟨by rw [H1.out, hD]; rfl, by rw [H2.out, hD]; rfl⟩
      clear hD
      go_wp2
      go_ret2
      obtain ⟨p1, p2, p3⟩ := HP.out
      have hz2 := HB.out.size
      refine ⟨up_alloc HB.out _, .inl ⟨HE.out.1, wr.heap.size, w.heap.size + 1, w.heap.size, rfl, ⟨heap_alloc_new wr _, ⟨ws, by rw [HE.out.2]; exact HM.out.below (up_alloc (Below.refl _ _) _)⟩, p1, p2, ?_, by omega⟩, hz2, Nat.le_refl _⟩⟩
      rw [HE.out.2, HLN.out, HNN.out]
/-- New. -/
def GaveN (b c : Int) (w : World) (e : Ending) (w' : World) : Prop :=
  Below w.heap.size w w' ∧ ∃ s q g, e = .returned (.tuple #[.pointer (some ⟨s, 0, none⟩), .int .i64 0]) ∧ Sl w' s q g b c (l0 c) ∧ w.heap.size ≤ s ∧ w.heap.size ≤ g
theorem new_no (hT : Tb w) (h : (baseB b && classB c) = false) : Calls Tryd.prog 12 #[.int .i64 b, .int .i64 c] w fun e w' => e = .returned (.tuple #[.pointer none, .int .i64 11]) ∧ w = w' := by
  have HW := Lib.hid (with_no none 0 0 hT h)
  clear hT h
  go_enter Tryd.func12, Tryd.ntmps12
  go_wp2_with (go_at_call 9; refine HW.out.mono ?_; rintro e w' ⟨rfl, rfl⟩)
  go_ret2
  exact ⟨rfl, rfl⟩
theorem new_yes (hT : Tb w) (hb : baseB b = true) (hc : classB c = true) : Calls Tryd.prog 12 #[.int .i64 b, .int .i64 c] w (GaveN b c w) := by
  have HW := Lib.hid (with_yes none 0 0 [] (fun h => by simp [ints] at h) rfl (by omega) hT hb hc)
  clear hT hb hc
  go_enter Tryd.func12, Tryd.ntmps12
  go_wp2_with fail
  refine HW.out.mono ?_
  rintro e w1 ⟨b1, h⟩
  rcases h with ⟨_, s, q, g, rfl, h1, h2, h3⟩ | ⟨h, _⟩
  · have H1 : Hid (Below w.heap.size w w1 ∧ Sl w1 s q g b c (l0 c) ∧ w.heap.size ≤ s ∧ w.heap.size ≤ g) := ⟨b1, h1, h2, h3⟩
    clear b1 h1 h2 h3 HW
    go_wp2
    go_ret2
    exact ⟨H1.out.1, s, q, g, rfl, H1.out.2⟩
  · cases h
end
end Go.Proofs.YtiemgeflkmbfoaaDoor.Os
