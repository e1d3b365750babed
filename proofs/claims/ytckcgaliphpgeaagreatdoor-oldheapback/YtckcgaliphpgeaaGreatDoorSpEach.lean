/-
  What Free and Largest do: contracts that the claimed proofs use.
-/
import Derived.Test.YtckcgaliphpgeaaGreatDoorSpA
namespace Go.Proofs.YtckcgaliphpgeaaGreatDoor.Sp
set_option maxRecDepth 100000
open Go.RowKit

/-- What is reckoned over the free runs. -/
def fo (st : Int → Int → Int) (L : List Rn) : Int := L.foldl (fun a r => if r.t = true then a else st a r.n) 0
theorem fo_step (st : Int → Int → Int) {L : List Rn} {k : Nat} (h : k < L.length) : fo st (L.take (k + 1)) = if (el L k).t = true then fo st (L.take k) else st (fo st (L.take k)) (el L k).n := by
  unfold fo; rw [take_one h, List.foldl_append]; rfl
def fsum (L : List Rn) : Int := fo (fun a b => a + b) L
def fmax (L : List Rn) : Int := fo (fun a b => max a b) L
theorem sum_bd : ∀ {L : List Rn} {a e : Int}, Chain a L e → ∀ v : Int, v ≤ L.foldl (fun a r => if r.t = true then a else a + r.n) v ∧ L.foldl (fun a r => if r.t = true then a else a + r.n) v ≤ v + (e - a)
  | [], a, e, h, v => by simp only [Chain] at h; subst h; simp
  | r :: L, a, e, h, v => by
    have h1 := h.2.1
    have h2 := chain_len h.2.2
    rw [List.foldl_cons]
    by_cases ht : r.t = true
    · rw [if_pos ht]; have := sum_bd h.2.2 v; omega
    · rw [if_neg ht]; have := sum_bd h.2.2 (v + r.n); omega
theorem sum_in {N : Int} {L : List Rn} (h : WF N L) (hN : N ≤ 4096) (k : Nat) : 0 ≤ fo (fun a b => a + b) (L.take k) ∧ fo (fun a b => a + b) (L.take k) ≤ 4096 := by
  have e := (List.take_append_drop k L).symm
  have hc := h.chain
  rw [e] at hc
  obtain ⟨m, c1, c2⟩ := chain_app.1 hc
  have := chain_len c2
  have := sum_bd c1 0
  unfold fo
  dsimp only
  omega
theorem max_in {N : Int} {L : List Rn} (h : WF N L) (hN : N ≤ 4096) (k : Nat) : 0 ≤ fo (fun a b => max a b) (L.take k) ∧ fo (fun a b => max a b) (L.take k) ≤ 4096 := by
  induction k with
  | zero => simp [fo]
  | succ k ih =>
    by_cases hk : k < L.length
    · rw [fo_step _ hk]
      have := h.bds hN hk
      by_cases ht : (el L k).t = true
      · rw [if_pos ht]; exact ih
      · rw [if_neg ht]; omega
    · rw [List.take_of_length_le (by omega)]; rw [List.take_of_length_le (by omega)] at ih; exact ih

theorem Blk.val {w : World} {b : Nat} {x y : Int} (h : Blk w b [.int .i64 x] 3) (e : x = y) : Blk w b [.int .i64 y] 3 := e ▸ h
theorem tell28_any {W : World} {b : Nat} (v p m : Int) (t : Bool) (hb : Blk W b [.int .i64 v] 3) (h1 : 0 ≤ v) (h2 : v ≤ 4096) (h3 : 0 ≤ m) (h4 : m ≤ 4096) :
    Calls Tryz.prog 108 #[.agg #[.int .i64 p, .int .i64 m, .bool t], .pointer (some ⟨b, 0, none⟩)] W fun e w' => e = .returned (.tuple #[]) ∧ Blk w' b [.int .i64 (v + m)] 3 ∧ W.grownBy w' (some b) := by
  have c0 : W.cell? ⟨b, 0, none⟩ = some (.int .i64 v) := hb.cell
  have f0 := hb.frozen 0
  have hbl := hb.lt
  have hbn : b ≠ W.heap.size := by omega
  have HA := Lib.hid hb
  clear hb
  go_enter Tryz.func108, Tryz.ntmps108
  go_wp2
  all_goals
    go_end0
    refine ⟨rfl, ((HA.out.set (i := 0) _).of (heap_alloc_old _ _ (by simpa [World.setCell] using hbl))).val (by omega), grown_trans (grown_set _ _ _ _) (grown_below (up_alloc (Below.refl _ _) _))⟩
set_option maxHeartbeats 1000000 in
theorem each28_any {w : World} {q g b n : Nat} {N : Int} {L : List Rn} (h : Sp w q g L) (hw : WF N L) (hN : N ≤ 4096) (hn : L.length = n) (hb : Blk w b [.int .i64 0] 3) (_hq : b ≠ q) (hg : b ≠ g) :
    Calls Tryz.prog 107 #[.pointer (some ⟨q, 0, none⟩), .func (.func 108) #[] #[.pointer (some ⟨b, 0, none⟩)]] w fun e w' => e = .returned (.tuple #[]) ∧ Blk w' b [.int .i64 (fo (fun a b => a + b) L)] 3 ∧ w.grownBy w' (some b) := by
  obtain ⟨cap, hqq, hr, hne⟩ := h
  have c0 : w.cell? ⟨q, 0, none⟩ = some (.slice (some ⟨g, 0, none⟩) L.length cap) := hqq.cell
  rw [hn] at c0
  have HR := Lib.hid hr
  have HN := Lib.hid hn
  have HW := Lib.hid hw
  have HB0 := Lib.hid hb
  have HG := Lib.hid hg
  have hlen : n ≤ 4096 := by have := hw.len; omega
  clear hqq hr hne hw hb _hq hg hn
  go_enter Tryz.func107, Tryz.ntmps107
  go_wp2
  go_loopw [11] (fun i wr => ∃ k : Nat, k ≤ n ∧ i = .int .i64 k ∧ Blk wr b [.int .i64 (fo (fun a b => a + b) (L.take k))] 3 ∧ w.grownBy wr (some b)) (fun i _ => n - (intOf i).toNat)
  case atStart => exact ⟨0, by omega, rfl, HB0.out, grown_refl _ _⟩
  case round =>
    obtain ⟨k, hk, rfl, hbk, hgr⟩ := hrel
    have HBK := Lib.hid hbk
    have HGR := Lib.hid hgr
    clear hbk hgr
    by_cases hlt : k < n
    · have hkl : k < L.length := by rw [HN.out]; exact hlt
      obtain ⟨r0, r1, r2⟩ := (HR.out.of (HGR.out.block g HR.out.lt (by simp; exact fun e => HG.out e.symm))).cells hkl
      have hst := Lib.hid (fo_step (fun a b => a + b) hkl)
      have hbd := HW.out.bds hN hkl
      have hsi := sum_in HW.out hN k
      have hbl := HBK.out.lt
      obtain ⟨x, hx⟩ : ∃ x, el L k = x := ⟨_, rfl⟩
      rw [hx] at r0 r1 r2 hst hbd
      obtain ⟨p, m, t⟩ := x
      dsimp only at r0 r1 r2 hst hbd
      obtain ⟨v, hv⟩ : ∃ v, fo (fun a b => a + b) (L.take k) = v := ⟨_, rfl⟩
      rw [hv] at HBK hst hsi
      have k1 : (0 : Int) ≤ (k : Int) := by omega
      have k2 : (k : Int) < (n : Int) := by omega
      clear hx hv
      cases t with
      | true =>
        go_wp2
        go_roundw
        case rel =>
          refine ⟨k + 1, by omega, by go_num, ?_, grown_trans HGR.out (grown_below (up_alloc (Below.refl _ _) _))⟩
          rw [hst.out, if_pos rfl]
          exact HBK.out.of (heap_alloc_old _ _ hbl)
        case measure => simp [intOf]; omega
      | false =>
        have HT : Hid (Calls Tryz.prog 108 #[.agg #[.int .i64 p, .int .i64 m, .bool false], .pointer (some ⟨b, 0, none⟩)] (wr.alloc (.cells #[.int .i64 p, .int .i64 m, .bool false] 108)) _) := tell28_any v p m false (HBK.out.of (heap_alloc_old _ _ hbl)) hsi.1 hsi.2 hbd.2.2.1 hbd.2.2.2
        go_wp2_with (go_at_call 108; refine HT.out.mono ?_; rintro e w2 ⟨rfl, b2, g2⟩)
        go_roundw
        case rel =>
          refine ⟨k + 1, by omega, by go_num, ?_, grown_trans (grown_trans HGR.out (grown_below (up_alloc (Below.refl _ _) _))) g2⟩
          rw [hst.out, if_neg (by simp)]
          exact b2
        case measure => simp [intOf]; omega
    · obtain rfl : k = n := by omega
      have e : L.take k = L := List.take_of_length_le (by rw [HN.out]; omega)
      rw [e] at HBK
      go_wp2
      go_end0
      exact ⟨rfl, HBK.out, HGR.out⟩
theorem sum_any {w : World} {q g : Nat} {N : Int} {L : List Rn} (h : Sp w q g L) (hw : WF N L) (hN : N ≤ 4096) :
    Calls Tryz.prog 61 #[.pointer (some ⟨q, 0, none⟩)] w fun e w' => e = .returned (.int .i64 (fsum L)) ∧ Below w.heap.size w w' := by
  have hlt := h.lt
  have hB : Blk (w.alloc (.cells #[.int .i64 0] 3)) w.heap.size [.int .i64 0] 3 := heap_alloc_new w _
  have HE := Lib.hid (each28_any (h.below (up_alloc (Below.refl _ w) (.cells #[.int .i64 0] 3))) hw hN rfl hB (by omega) (by omega))
  have hmf := make_func
  clear h hw hB
  go_enter Tryz.func61, Tryz.ntmps61
  go_wp2_with fail
  refine HE.out.mono ?_
  rintro e w1 ⟨rfl, b1, g1⟩
  have c1 : w1.cell? ⟨w.heap.size, 0, none⟩ = some (.int .i64 (fo (fun a b => a + b) L)) := b1.cell
  have HB := Lib.hid (grown_new (up_alloc (Below.refl _ w) _) g1 (Nat.le_refl _))
  clear b1 g1 HE
  go_wp2
  go_ret
  exact ⟨rfl, HB.out⟩

end Go.Proofs.YtckcgaliphpgeaaGreatDoor.Sp
