/-
  What Give and GiveAll do: contracts that the claimed proofs use.
-/
import Derived.Test.YtaelfgdiboekpaaDoorNsSome
namespace Go.Proofs.YtaelfgdiboekpaaDoor.Ns
set_option maxRecDepth 100000
open Go.RowKit
open Ce (u ldW Mem)
open Bi (Blk Drawn hasB hasB_iff hasB_not up_alloc up_drew up_trans i64_in ret_i ret_b grown_refl grown_trans grown_below)

/-! ### What is answered, and what is written -/
def gaE (b c : Nat) : List Nat → List Int → Int
  | _, [] => 0
  | X, x :: r => match slotO b c x with
    | none => 12
    | some k => if k ∈ X then 19 else gaE b c (X ++ [k]) r
def gaK (b c : Nat) (T : List Int) : List Nat := T.filterMap (slotO b c)
def SS.pushes (b c : Nat) (S : SS) (ks : List Nat) : SS := ks.foldl (SS.push b c) S
theorem pushes_snoc (b c : Nat) (S : SS) (ks : List Nat) (k : Nat) : S.pushes b c (ks ++ [k]) = (S.pushes b c ks).push b c k := by unfold SS.pushes; rw [List.foldl_append]; rfl
theorem gaE_ok {b c : Nat} : ∀ {T : List Int} {X : List Nat}, gaE b c X T = 0 → ∀ j (hj : j < T.length), ∃ k, slotO b c T[j] = some k ∧ k ∉ X ∧ k ∉ gaK b c (T.take j)
  | [], _, _, j, hj => absurd hj (by simp)
  | x :: r, X, h, j, hj => by
    unfold gaE at h
    cases hs : slotO b c x with
    | none => rw [hs] at h; exact absurd h (by simp)
    | some k =>
      rw [hs] at h
      dsimp only at h
      by_cases hk : k ∈ X
      · rw [if_pos hk] at h; exact absurd h (by decide)
      · rw [if_neg hk] at h
        cases j with
        | zero => exact ⟨k, hs, hk, by simp [gaK]⟩
        | succ j =>
          obtain ⟨k', h1, h2, h3⟩ := gaE_ok h j (by simpa using hj)
          refine ⟨k', h1, fun e => h2 (by simp [e]), ?_⟩
          unfold gaK at h3 ⊢
          rw [List.take_succ_cons, List.filterMap_cons, hs]
          intro e
          rcases List.mem_cons.1 e with e | e
          · exact h2 (by simp [e])
          · exact h3 e
theorem gaK_take {b c k : Nat} {T : List Int} {j : Nat} (hj : j < T.length) (h : slotO b c T[j] = some k) : gaK b c (T.take (j + 1)) = gaK b c (T.take j) ++ [k] := by
  unfold gaK
  rw [List.take_succ_eq_append_getElem hj, List.filterMap_append, List.filterMap_cons, h]; rfl
section
variable {w w' W : World} {s q g b c h f : Nat} {bs : List (BitVec 8)} {L : List Nat}
theorem holds_yes (k : Nat) (m : Sb w s q g bs b c h f) (hk : k < nS c) : Calls Tryd.prog 84 #[.pointer (some ⟨s, 0, none⟩), .int .i64 ((b + k * zN c : Nat) : Int)] w fun e w' => e = .returned (.bool true) ∧ w = w' := by
  have c0 := m.c0
  have h1 := slot_in m.hc hk
  have h2 := (cls c m.hc).1
  have h3 := m.bd
  have HL := Lib.hid (load8 (b + k * zN c) m.mem (by omega))
  generalize b + k * zN c = y at *
  generalize ldW bs y 8 = x at *
  clear m hk h1 h2 h3
  go_enter Tryd.func84, Tryd.ntmps84
  go_wp2_with (go_at_call 45; refine HL.out.mono ?_; rintro e w' ⟨rfl, rfl⟩)
  go_ret
  exact ⟨rfl, rfl⟩
theorem all_no {A : Option Addr} {n cap : Nat} (m : Sb w s q g bs b c h f) (hT : Tb.Tab w) (hr : ¬ ∃ L, Rt (nx bs b c) h f L) : Calls Tryd.prog 46 #[.pointer (some ⟨s, 0, none⟩), .slice A n cap] w fun e w' => e = .returned (.int .i64 10) ∧ Below w.heap.size w w' := by
  have HC := Lib.hid ((row_any m hT).mono (fun e w' h => show ∃ q2 : Nat, e = .returned (.tuple #[.pointer (some ⟨q2, 0, none⟩), .int .i64 10]) ∧ Below w.heap.size w w' from by
    obtain ⟨E, xs, q2, g2, he, hg, _, _, _, hb⟩ := h
    rw [hg.no hr] at he
    exact ⟨q2, he, hb⟩))
  clear m hT hr
  go_enter Tryd.func46, Tryd.ntmps46
  go_wp2_with fail
  refine HC.out.mono ?_
  rintro e w1 ⟨q2, rfl, hb⟩
  have HB := Lib.hid hb
  clear hb HC
  go_wp2_with fail
  go_ret
  exact ⟨rfl, HB.out⟩
/-- What is left of a slab to which slots were given. -/
def Gave (s q g b c : Nat) (S : SS) (w w' : World) : Prop := Sb w' s q g S.bs b c S.h S.f ∧ Fr s g w w' ∧ Tb.Tab w'
set_option maxHeartbeats 4000000 in
theorem all_yes {A : Option Addr} {n cap : Nat} {T : List Int} (m : Sb w s q g bs b c h f) (hT : Tb.Tab w) (hr : Rt (nx bs b c) h f L) (hA : At w.heap.size w A (ints T)) (hn : T.length = n) (hn2 : n ≤ 1048576) (hI : ∀ x ∈ T, I64 x)
    (hfar : ∀ b' o', A = some ⟨b', o', none⟩ → b' ≠ s ∧ b' ≠ g) :
    Calls Tryd.prog 46 #[.pointer (some ⟨s, 0, none⟩), .slice A n cap] w fun e w' => (gaE b c L T ≠ 0 ∧ e = .returned (.int .i64 (gaE b c L T)) ∧ Below w.heap.size w w') ∨ (gaE b c L T = 0 ∧ e = .returned (.int .i64 0) ∧ Gave s q g b c (SS.pushes b c ⟨bs, h, f⟩ (gaK b c T)) w w') := by
  have HC := Lib.hid ((row_any m hT).mono (fun e w' h => show ∃ q2 g2 : Nat, e = .returned (.tuple #[.pointer (some ⟨q2, 0, none⟩), .int .i64 0]) ∧ RowAt (nS c) L w' q2 g2 ∧ w.heap.size ≤ g2 ∧ Below w.heap.size w w' from by
    obtain ⟨E, xs, q2, g2, he, hg, hm, _, hg2, hb⟩ := h
    obtain ⟨e1, e2⟩ := hg.yes hr
    rw [e1] at he
    subst e2
    exact ⟨q2, g2, he, hm, hg2, hb⟩))
  have HM := Lib.hid m
  have HT := Lib.hid hT
  have HA := Lib.hid hA
  have HN := Lib.hid hn
  have HI := Lib.hid hI
  have HOk : Hid (Ok b c bs.length ⟨bs, h, f⟩ L) := ⟨hr, rfl, m.hh⟩
  have HFar := Lib.hid hfar
  clear m hT hr hA hn hI hfar
  go_enter Tryd.func46, Tryd.ntmps46
  go_wp2_with fail
  refine HC.out.mono ?_
  rintro e w1 ⟨q2, g2, rfl, hm, hg2, hb⟩
  have HB := Lib.hid hb
  have HM1 := Lib.hid hm
  have HG2 := Lib.hid hg2
  clear hb hm hg2 HC
  go_wp2_with fail
  go_loopw [7, 26] (fun v i wr => ∃ (j : Nat) (X : List Nat), j ≤ n ∧ i = .int .i64 (j : Int) ∧ v = .bool true ∧ gaE b c X (T.drop j) = gaE b c L T ∧ RowAt (nS c) X wr q2 g2 ∧ Below w.heap.size w wr) (fun _ i _ => n - (intOf i).toNat)
  case atStart => exact ⟨0, L, by omega, rfl, rfl, rfl, HM1.out, HB.out⟩
  case round =>
    obtain ⟨j, X, hj, rfl, rfl, hx, hr, hb⟩ := hrel
    have HX := Lib.hid hx
    have HR := Lib.hid hr
    have HBr := Lib.hid hb
    clear hx hr hb
    by_cases hlt : j < n
    · have hjl : j < T.length := by rw [HN.out]; exact hlt
      obtain ⟨b', o', rfl, _, q0⟩ := (HA.out.below HBr.out).int hjl
      have hdr := List.drop_eq_getElem_cons hjl
      have hxI : I64 T[j] := HI.out _ (List.getElem_mem hjl)
      obtain ⟨x, hx⟩ : ∃ x, T[j] = x := ⟨_, rfl⟩
      rw [hx] at q0 hdr hxI
      rw [hdr] at HX
      have HX2 : Hid ((match slotO b c x with | none => (12 : Int) | some k => if k ∈ X then 19 else gaE b c (X ++ [k]) (T.drop (j + 1))) = gaE b c L T) := HX.out
      have Mr := HM.out.below HBr.out
      have HSl := Lib.hid (slot_any x hxI Mr (HT.out.below HBr.out))
      unfold slotV at HSl
      have j1 : (0 : Int) ≤ (j : Int) := by omega
      have j2 : (j : Int) < (n : Int) := by omega
      have HSo : Hid (∀ k, slotO b c x = some k → k < nS c ∧ x = ((b + k * zN c : Nat) : Int)) := fun k e => slotO_some e
      clear hx hdr hjl HX hxI
      cases hso : slotO b c x with
      | none =>
        rw [hso] at HX2 HSl
        clear hso
        go_wp2_with fail
        refine HSl.out.mono ?_
        rintro e w' ⟨rfl, rfl⟩
        clear HSl
        go_wp2_with fail
        go_ret
        refine .inl ⟨by rw [← HX2.out]; simp, ?_, HBr.out⟩
        rw [← HX2.out]; rfl
      | some k =>
        obtain ⟨hkN, rfl⟩ := HSo.out k hso
        rw [hso] at HX2 HSl
        have HHo := Lib.hid (fun (V : World) (hV : Below w.heap.size w V) => holds_yes k (HM.out.below hV) hkN)
        have HSet : Hid (Calls Tryd.prog 55 #[.pointer (some ⟨q2, 0, none⟩), .int .i64 (k : Int)] wr fun e w' => e = .returned (.bool (!decide (k ∈ X))) ∧ RowAt (nS c) (X ++ [k]) w' q2 g2 ∧ wr.grownBy w' (some g2)) := by
          obtain ⟨ws, hm⟩ := HR.out
          have := Bi.set_any q2 g2 _ ws (k : Int) wr hm
          unfold Bi.Turned at this
          rw [setTo_setB hkN, ← setTo_snoc] at this
          exact this
        generalize b + k * zN c = y at *
        clear hso HSo Mr
        go_wp2_with fail
        refine HSl.out.mono ?_
        rintro e w' ⟨rfl, rfl⟩
        clear HSl
        by_cases hin : k ∈ X
        · have HX3 : Hid (19 = gaE b c L T) := by have := (show (if k ∈ X then (19 : Int) else gaE b c (X ++ [k]) (T.drop (j + 1))) = gaE b c L T from HX2.out); rwa [if_pos hin] at this
          rw [show (!decide (k ∈ X)) = false by simpa using hin] at HSet
          clear hin HX2
          go_wp2_with fail
          refine HSet.out.mono ?_
          rintro e w3 ⟨rfl, m3, g3⟩
          have G3 := Lib.hid g3
          clear m3 g3 HSet
          go_wp2_with fail
          go_ret
          refine .inl ⟨by rw [← HX3.out]; decide, by rw [← HX3.out]; rfl, HBr.out.grown G3.out HBr.out.size (fun _ e => by cases e; exact HG2.out)⟩
        · have HX3 : Hid (gaE b c (X ++ [k]) (T.drop (j + 1)) = gaE b c L T) := by have := (show (if k ∈ X then (19 : Int) else gaE b c (X ++ [k]) (T.drop (j + 1))) = gaE b c L T from HX2.out); rwa [if_neg hin] at this
          rw [show (!decide (k ∈ X)) = true by simpa using hin] at HSet
          clear hin HX2
          go_wp2_with fail
          refine HSet.out.mono ?_
          rintro e w3 ⟨rfl, m3, g3⟩
          have R3 := Lib.hid m3
          have B3 : Hid (Below w.heap.size w w3) := HBr.out.grown g3 HBr.out.size (fun _ e => by cases e; exact HG2.out)
          have HH3 := Lib.hid (HHo.out _ B3.out)
          clear m3 g3 HSet HHo
          go_wp2_with fail
          refine HH3.out.mono ?_
          rintro e w' ⟨rfl, rfl⟩
          clear HH3
          go_wp2_with fail
          go_roundw
          case rel => exact ⟨j + 1, X ++ [k], by omega, by go_num, rfl, HX3.out, R3.out, B3.out⟩
          case measure => simp [intOf]; omega
    · obtain rfl : j = n := by omega
      have hE : gaE b c L T = 0 := by
        have := HX.out
        rw [List.drop_of_length_le (by rw [HN.out]; exact Nat.le_refl _)] at this
        exact this.symm
      have HE := Lib.hid hE
      have HG := Lib.hid (gaE_ok hE)
      clear hE HX HR
      go_wp2_with fail
      go_loopw [51] (fun i wq => ∃ (y : Nat), y ≤ j ∧ i = .int .i64 (y : Int) ∧ Sb wq s q g (SS.pushes b c ⟨bs, h, f⟩ (gaK b c (T.take y))).bs b c (SS.pushes b c ⟨bs, h, f⟩ (gaK b c (T.take y))).h (SS.pushes b c ⟨bs, h, f⟩ (gaK b c (T.take y))).f ∧ (∃ M, Ok b c bs.length (SS.pushes b c ⟨bs, h, f⟩ (gaK b c (T.take y))) M ∧ ∀ k ∈ M, k ∈ L ∨ k ∈ gaK b c (T.take y)) ∧ Fr s g w wq ∧ Tb.Tab wq) (fun i _ => j - (intOf i).toNat)
      case atStart => exact ⟨0, by omega, rfl, HM.out.below HBr.out, ⟨L, HOk.out, fun k hk => .inl hk⟩, Fr.of HBr.out, HT.out.below HBr.out⟩
      case round =>
        obtain ⟨y, hy, rfl, hm, ⟨M, hok, hM⟩, hfr, ht⟩ := hrel
        have HM2 := Lib.hid hm
        have HOk2 := Lib.hid hok
        have HMM := Lib.hid hM
        have HF2 := Lib.hid hfr
        have HT2 := Lib.hid ht
        clear hm hok hM hfr ht
        by_cases hlt2 : y < j
        · have hyl : y < T.length := by rw [HN.out]; exact hlt2
          have hxI : I64 T[y] := HI.out _ (List.getElem_mem hyl)
          obtain ⟨k, k1, k2, k3⟩ := HG.out y hyl
          obtain ⟨hkN, hxe⟩ := slotO_some k1
          have HTk := Lib.hid (gaK_take hyl k1)
          obtain ⟨b', o', rfl, hb', q0⟩ := HA.out.int hyl
          have hfar' := HFar.out b' o' rfl
          have q1 : wr.cell? ⟨b', o' + y, none⟩ = some (.int .i64 T[y]) := (Bi.cell_of_block (HF2.out.block b' hb' hfar'.1 hfar'.2)).trans q0
          have HSl := Lib.hid (slot_any _ hxI HM2.out HT2.out)
          unfold slotV at HSl
          rw [k1] at HSl
          generalize T[y] = x at *
          have hkM : k ∉ M := fun e => by
            rcases HMM.out k e with e | e
            · exact k2 e
            · exact k3 e
          have HKM := Lib.hid hkM
          have HP := Lib.hid (push_yes k HM2.out HT2.out hkN (HOk2.out.lt hkN hkM))
          have HKN := Lib.hid hkN
          have j1 : (0 : Int) ≤ (y : Int) := by omega
          have j2 : (y : Int) < (j : Int) := by omega
          clear hyl hxI k1 k2 k3 hxe hfar' q0 hkM hkN
          go_wp2_with fail
          refine HSl.out.mono ?_
          rintro e w' ⟨rfl, rfl⟩
          clear HSl
          go_wp2_with fail
          refine HP.out.mono ?_
          rintro e w3 ⟨rfl, m3, f3⟩
          have M3 := Lib.hid m3
          have F3 := Lib.hid f3
          clear m3 f3 HP
          go_wp2_with fail
          go_roundw
          case rel =>
            have P2 := HM2.out.pos
            refine ⟨y + 1, by omega, by go_num, ?_, ?_, HF2.out.trans F3.out, F3.out.tab HT2.out P2.1 P2.2.2⟩
            · rw [HTk.out, pushes_snoc]; exact M3.out
            · rw [HTk.out, pushes_snoc]
              refine ⟨k :: M, HOk2.out.push HM.out.hc HM.out.fit HKN.out HKM.out, fun z hz => ?_⟩
              rcases List.mem_cons.1 hz with e | hz
              · right; simp [e]
              · rcases HMM.out z hz with e | e
                · exact .inl e
                · right; simp [e]
          case measure => simp [intOf]; omega
        · obtain rfl : y = j := by omega
          go_wp2_with fail
          go_ret
          refine .inr ⟨HE.out, rfl, ?_⟩
          have e : T.take y = T := List.take_of_length_le (by rw [HN.out]; exact Nat.le_refl _)
          have := HM2.out
          rw [e] at this
          exact ⟨this, HF2.out, HT2.out⟩
/-! ### Give -/
/-- What Give answers. -/
def gvE (b c : Nat) (L : List Nat) (x : Int) : Int := match slotO b c x with
  | none => 12
  | some k => if k ∈ L then 19 else 0
theorem gvE_is (b c : Nat) (L : List Nat) (x : Int) : gaE b c L [x] = gvE b c L x := by
  unfold gaE gvE
  cases slotO b c x with
  | none => rfl
  | some k => rfl
theorem gvE_zero {b c : Nat} {L : List Nat} {x : Int} (h : gvE b c L x = 0) : ∃ k, slotO b c x = some k ∧ k ∉ L := by
  unfold gvE at h
  cases hs : slotO b c x with
  | none => rw [hs] at h; exact absurd h (by simp)
  | some k =>
    rw [hs] at h
    refine ⟨k, rfl, fun e => ?_⟩
    have h2 : (if k ∈ L then (19 : Int) else 0) = 0 := h
    rw [if_pos e] at h2
    exact absurd h2 (by decide)
theorem give_no (x : Int) (m : Sb w s q g bs b c h f) (hT : Tb.Tab w) (hr : ¬ ∃ L, Rt (nx bs b c) h f L) : Calls Tryd.prog 34 #[.pointer (some ⟨s, 0, none⟩), .int .i64 x] w fun e w' => e = .returned (.int .i64 10) ∧ Below w.heap.size w w' := by
  have hb : Below w.heap.size w (w.alloc (.cells #[.int .i64 x] 3)) := up_alloc (Below.refl _ w) _
  have HC := Lib.hid (all_no (A := some ⟨w.heap.size, 0, none⟩) (n := 1) (cap := 1) (m.below hb) (hT.below hb) hr)
  have HB := Lib.hid hb
  clear m hT hr hb
  go_enter Tryd.func34, Tryd.ntmps34
  go_wp2_with fail
  refine HC.out.mono ?_
  rintro e w1 ⟨rfl, h1⟩
  have H1 := Lib.hid (up_trans HB.out h1)
  clear h1 HC
  go_wp2_with fail
  go_ret
  exact ⟨rfl, H1.out⟩
theorem give_yes (x : Int) (hx : I64 x) (m : Sb w s q g bs b c h f) (hT : Tb.Tab w) (hr : Rt (nx bs b c) h f L) : Calls Tryd.prog 34 #[.pointer (some ⟨s, 0, none⟩), .int .i64 x] w fun e w' =>
    (gvE b c L x ≠ 0 ∧ e = .returned (.int .i64 (gvE b c L x)) ∧ Below w.heap.size w w') ∨ (gvE b c L x = 0 ∧ e = .returned (.int .i64 0) ∧ ∃ k, slotO b c x = some k ∧ k ∉ L ∧ Gave s q g b c (SS.push b c ⟨bs, h, f⟩ k) w w') := by
  have hb : Below w.heap.size w (w.alloc (.cells #[.int .i64 x] 3)) := up_alloc (Below.refl _ w) _
  have hl := m.lt
  have HC := Lib.hid ((all_yes (A := some ⟨w.heap.size, 0, none⟩) (n := 1) (cap := 1) (T := [x]) (m.below hb) (hT.below hb) hr (int_at w x) rfl (by omega) (by intro y hy; rw [List.mem_singleton.1 hy]; exact hx) (by intro b' o' e; cases e; omega)).mono (fun e w' hh => show ∃ E, e = .returned (.int .i64 E) ∧ ((gvE b c L x ≠ 0 ∧ E = gvE b c L x ∧ Below w.heap.size w w') ∨ (gvE b c L x = 0 ∧ E = 0 ∧ ∃ k, slotO b c x = some k ∧ k ∉ L ∧ Gave s q g b c (SS.push b c ⟨bs, h, f⟩ k) w w')) from by
    rw [gvE_is] at hh
    rcases hh with ⟨h1, h2, h3⟩ | ⟨h1, h2, h3, h4, h5⟩
    · exact ⟨_, h2, .inl ⟨h1, rfl, up_trans hb h3⟩⟩
    · obtain ⟨k, k1, k2⟩ := gvE_zero h1
      refine ⟨_, h2, .inr ⟨h1, rfl, k, k1, k2, ?_, (Fr.of hb).trans h4, h5⟩⟩
      have e : gaK b c [x] = [k] := by unfold gaK; rw [List.filterMap_cons, k1]; rfl
      rw [e] at h3
      exact h3))
  clear m hT hr hb hl hx
  go_enter Tryd.func34, Tryd.ntmps34
  go_wp2_with fail
  refine HC.out.mono ?_
  rintro e w1 ⟨E, rfl, h1⟩
  have H1 := Lib.hid h1
  clear h1 HC
  go_wp2_with fail
  go_ret
  rcases H1.out with ⟨h1, rfl, h3⟩ | ⟨h1, rfl, h3⟩
  · exact .inl ⟨h1, rfl, h3⟩
  · exact .inr ⟨h1, rfl, h3⟩
end
end Go.Proofs.YtaelfgdiboekpaaDoor.Ns
