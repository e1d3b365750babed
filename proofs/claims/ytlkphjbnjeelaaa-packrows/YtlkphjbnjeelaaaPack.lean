/-
  What pack.Pack and pack.Unpack do: contracts that the claimed proofs use.
-/
import Derived.Test.YtlkphjbnjeelaaaApart
namespace Go.Proofs.Ytlkphjbnjeelaaa
open Go.RowKit

/-- The words of a slice. -/
def WAt (w : World) (b off : Nat) (vs : List (BitVec 64)) : Prop :=
  ∀ i, i < vs.length → w.cell? ⟨b, off + i, none⟩ = some (.int .u64 (u (vs.getD i 0#64)))
def WS (B : Nat) (w : World) (A : Option Addr) (vs : List (BitVec 64)) : Prop :=
  0 < vs.length → ∃ b off, A = some ⟨b, off, none⟩ ∧ b < B ∧ WAt w b off vs
theorem WAt.below {B b off : Nat} {w w' : World} {vs : List (BitVec 64)} (h : WAt w b off vs) (hb : b < B) (hw : Below B w w') : WAt w' b off vs :=
  fun i hi => (hw.cell (p := ⟨b, off + i, none⟩) hb).trans (h i hi)
theorem WS.below {B : Nat} {w w' : World} {A : Option Addr} {vs : List (BitVec 64)} (h : WS B w A vs) (hw : Below B w w') : WS B w' A vs := fun hp => by
  obtain ⟨b, off, e, hb, hf⟩ := h hp
  exact ⟨b, off, e, hb, hf.below hb hw⟩
theorem WS.more {B B' : Nat} {w : World} {A : Option Addr} {vs : List (BitVec 64)} (h : WS B w A vs) (hB : B ≤ B') : WS B' w A vs := fun hp => by
  obtain ⟨b, off, e, hb, hf⟩ := h hp
  exact ⟨b, off, e, by omega, hf⟩

theorem keep3 {B : Nat} {W w2 : World} {p1 p2 p3 : Addr} {v1 v2 v3 : Value} (hb : Below B W w2) (h : W.cell? p1 = some v1 ∧ W.cell? p2 = some v2 ∧ W.cell? p3 = some v3) (b1 : p1.block < B) (b2 : p2.block < B) (b3 : p3.block < B) :
    w2.cell? p1 = some v1 ∧ w2.cell? p2 = some v2 ∧ w2.cell? p3 = some v3 := ⟨(hb.cell b1).trans h.1, (hb.cell b2).trans h.2.1, (hb.cell b3).trans h.2.2⟩
theorem pack_len (A V : Option Addr) (l : List (Int × Int)) (vs : List (BitVec 64)) (c d : Nat) (w : World) (hne : l.length ≠ vs.length) :
    Calls Try.prog 22 #[.slice A l.length c, .slice V vs.length d] w fun e w' => e = .returned (.tuple #[.int .u64 0, .bool false]) ∧ Below w.heap.size w w' := by
  have hd : ((l.length : Int) != (vs.length : Int)) = true := by simp; omega
  go_enter Try.func22, Try.ntmps22
  go_wp2
  go_ret2
  exact ⟨rfl, Below.refl _ _⟩
theorem pack_apart (A V : Option Addr) (l : List (Int × Int)) (vs : List (BitVec 64)) (c d : Nat) (w : World) (hne : l.length = vs.length) (hf : FS w.heap.size w A l) (hl : l.length ≤ 70) (ha : apartGo 0#64 l = false) :
    Calls Try.prog 22 #[.slice A l.length c, .slice V vs.length d] w fun e w' => e = .returned (.tuple #[.int .u64 0, .bool false]) ∧ Below w.heap.size w w' := by
  rw [← hne]
  have hd : ((l.length : Int) != (l.length : Int)) = false := by simp
  have HF := Lib.hid hf
  clear hne hf
  go_enter Try.func22, Try.ntmps22
  go_wp2_with (go_at_call 25; refine (apart_any A l c _ HF.out hl).mono ?_; rintro e w1 ⟨rfl, hb1⟩)
  go_ret2
  exact ⟨rfl, hb1⟩
theorem pack_nil (A V : Option Addr) (c d : Nat) (w : World) :
    Calls Try.prog 22 #[.slice A 0 c, .slice V 0 d] w fun e w' => e = .returned (.tuple #[.int .u64 0, .bool true]) ∧ Below w.heap.size w w' := by
  go_enter Try.func22, Try.ntmps22
  go_wp2_with (go_at_call 25; refine (apart_none A c _).mono ?_; rintro e w1 ⟨rfl, hb1⟩)
  go_loop [6, 23] (fun o i => o = .int .u64 0 ∧ i = .int .i64 0) (fun _ _ => 0)
  case atStart => exact ⟨rfl, rfl⟩
  case round =>
    obtain ⟨rfl, rfl⟩ := hrel
    go_wp2
    go_ret2
    exact ⟨rfl, hb1⟩
set_option maxHeartbeats 1000000 in
theorem pack_some (b off vb voff : Nat) (l : List (Int × Int)) (vs : List (BitVec 64)) (c d : Nat) (w : World) (hne : l.length = vs.length) (hb : b < w.heap.size) (hvb : vb < w.heap.size) (hf : FAt w b off l) (hv : WAt w vb voff vs) (hl : l.length ≤ 70) (ha : apartGo 0#64 l = true) :
    Calls Try.prog 22 #[.slice (some ⟨b, off, none⟩) l.length c, .slice (some ⟨vb, voff, none⟩) l.length d] w fun e w' =>
      e = .returned (match packGo 0#64 l vs with | some y => .tuple #[.int .u64 (u y), .bool true] | none => .tuple #[.int .u64 0, .bool false]) ∧ Below w.heap.size w w' := by
  have hd : ((l.length : Int) != (l.length : Int)) = false := by simp
  have HF := Lib.hid hf
  have HV := Lib.hid hv
  have HA := Lib.hid ha
  have HE := Lib.hid hne
  obtain ⟨r, hr⟩ : ∃ r : Value, (match packGo 0#64 l vs with | some y => Value.tuple #[.int .u64 (u y), .bool true] | none => .tuple #[.int .u64 0, .bool false]) = r := ⟨_, rfl⟩
  rw [hr]
  have HR := Lib.hid hr
  clear hf hv hne hr
  go_enter Try.func22, Try.ntmps22
  go_wp2_with (go_at_call 25; refine (apart_some b off l c _ hb HF.out hl).mono ?_; rintro e w1 ⟨rfl, hb1⟩)
  go_loopw [6, 23] (fun o i wr => ∃ k : Nat, k ≤ l.length ∧ i = .int .i64 k ∧ o = .int .u64 (u (packTo l vs k)) ∧ pkTo l vs k ∧ Below w.heap.size w wr) (fun _ i _ => l.length - (intOf i).toNat)
  case atStart => exact ⟨0, by omega, rfl, rfl, pkTo_zero l vs, hb1⟩
  case round =>
    obtain ⟨k, hk, rfl, rfl, hok, hbel⟩ := hrel
    have HO := Lib.hid hok
    clear hok
    by_cases hlt : k < l.length
    · obtain ⟨q1, q2⟩ := (HF.out.below hb hbel) k hlt
      have q3 := (HV.out.below hvb hbel) k (by have := HE.out; omega)
      have hsz := hbel.size
      have hb2 : b < wr.heap.size := by omega
      have hb3 : vb < wr.heap.size := by omega
      have hrt : fr (l.getD k (0, 0)) = true := (apart_all l _ HA.out _ (by rw [List.getD_eq_getElem?_getD, List.getElem?_eq_getElem hlt]; exact List.getElem_mem hlt)).1
      obtain ⟨s, hs⟩ : ∃ s, (l.getD k (0, 0)).1 = s := ⟨_, rfl⟩
      obtain ⟨n, hn⟩ : ∃ n, (l.getD k (0, 0)).2 = n := ⟨_, rfl⟩
      obtain ⟨v, hv⟩ : ∃ v, vs.getD k 0#64 = v := ⟨_, rfl⟩
      rw [hs] at q1
      rw [hn] at q2
      rw [hv] at q3
      have HP : Hid (l.getD k (0, 0) = (s, n)) := by rw [← hs, ← hn]; rfl
      have HV2 := Lib.hid hv
      rw [HP.out] at hrt
      clear hs hn hv
      by_cases hfit : fits v n.toNat = true
      · go_wp2_with fail
        go_region_held3 (fun w' => w'.cell? ⟨wr.heap.size, 0, none⟩ = some (.int .i64 s) ∧ w'.cell? ⟨wr.heap.size, 1, none⟩ = some (.int .i64 n) ∧ w'.cell? ⟨vb, voff + k, none⟩ = some (.int .u64 (u v)))
          (first | exact keep3 hb4 (by simp [go_sem, q3, hb3]) (by simp) (by simp) (by simp; omega) | simp [go_sem, q3, hb3])
          ((go_at_call 10; refine (put_yes _ _ _ _ _ hrt hfit).mono ?_; rintro e w2 ⟨rfl, hb4⟩))
        go_wp2
        go_roundw
        case rel => exact ⟨k + 1, by omega, by go_num, by rw [packTo, HP.out, HV2.out], pkTo_succ HO.out hlt (by have := HE.out; omega) (by rw [HP.out, HV2.out]; exact hfit), (up_drew (up_alloc hbel _) 1).trans (hb4.mono (by simp; omega))⟩
        case measure => simp [intOf]; omega
      · have hfit' : fits v n.toNat = false := by simpa using hfit
        clear hfit
        go_wp2_with fail
        go_region_held3 (fun w' => w'.cell? ⟨wr.heap.size, 0, none⟩ = some (.int .i64 s) ∧ w'.cell? ⟨wr.heap.size, 1, none⟩ = some (.int .i64 n) ∧ w'.cell? ⟨vb, voff + k, none⟩ = some (.int .u64 (u v)))
          (first | exact keep3 hb4 (by simp [go_sem, q3, hb3]) (by simp) (by simp) (by simp; omega) | simp [go_sem, q3, hb3])
          ((go_at_call 10; refine (put_wide _ _ _ _ _ hrt hfit').mono ?_; rintro e w2 ⟨rfl, hb4⟩))
        go_wp2
        go_ret2
        refine ⟨?_, (up_drew (up_alloc hbel _) 1).trans (hb4.mono (by simp; omega))⟩
        rw [← HR.out, pkTo_wide HO.out hlt (by have := HE.out; omega) (by rw [HP.out, HV2.out]; exact hfit')]
        rfl
    · obtain rfl : k = l.length := by omega
      go_wp2
      go_ret2
      refine ⟨?_, hbel⟩
      rw [← HR.out, pkTo_end HO.out]
      rfl
/-- What Pack answers, as values. -/
def packV (l : List (Int × Int)) (vs : List (BitVec 64)) : Value := match packB l vs with | some y => .tuple #[.int .u64 (u y), .bool true] | none => .tuple #[.int .u64 0, .bool false]
theorem pack_any (A V : Option Addr) (l : List (Int × Int)) (vs : List (BitVec 64)) (c d : Nat) (w : World) (hf : FS w.heap.size w A l) (hv : WS w.heap.size w V vs) (hl : l.length ≤ 70) :
    Calls Try.prog 22 #[.slice A l.length c, .slice V vs.length d] w fun e w' => e = .returned (packV l vs) ∧ Below w.heap.size w w' := by
  unfold packV packB
  by_cases hne : l.length = vs.length
  · by_cases ha : apartGo 0#64 l = true
    · rw [if_pos ⟨hne, ha⟩]
      rcases Nat.eq_zero_or_pos l.length with h0 | hp
      · have e1 := List.eq_nil_of_length_eq_zero h0
        subst e1
        have e2 := List.eq_nil_of_length_eq_zero hne.symm
        subst e2
        exact pack_nil A V c d w
      · obtain ⟨b, off, rfl, hb, hf⟩ := hf hp
        obtain ⟨vb, voff, rfl, hvb, hv⟩ := hv (by omega)
        rw [← hne]
        exact pack_some b off vb voff l vs c d w hne hb hvb hf hv hl ha
    · rw [if_neg (fun h => ha h.2)]
      exact pack_apart A V l vs c d w hne hf hl (by simpa using ha)
  · rw [if_neg (fun h => hne h.1)]
    exact pack_len A V l vs c d w hne

end Go.Proofs.Ytlkphjbnjeelaaa
