/-
  How empty runs are left out: contracts that the claimed proofs use.
-/
import Derived.Test.YtjnknnakllbaaaaGreatSpMem
namespace Go.Proofs.YtjnknnakllbaaaaGreat.Sp
set_option maxRecDepth 100000
open Go.RowKit

theorem empty_any (p n : Int) (t : Bool) (w : World) : Calls Tryz.prog 107 #[.agg #[.int .i64 p, .int .i64 n, .bool t]] w fun e w' => e = .returned (.bool (n == 0)) ∧ Below w.heap.size w w' := by
  go_enter Tryz.func107, Tryz.ntmps107
  go_wp2
  go_ret
  exact ⟨rfl, up_alloc (Below.refl _ w) _⟩
/-- The first empty one, or -1. -/
theorem first_empty {w : World} {g cap n : Nat} {L : List Rn} (hr : Rw w g cap L) (hn : L.length = n) (hl : n ≤ 8192) :
    Calls Tryz.prog 122 #[.slice (some ⟨g, 0, none⟩) n cap, .func (.func 107) #[] #[]] w fun e w' => Below w.heap.size w w' ∧
      ((e = .returned (.int .i64 (-1)) ∧ ∀ j, j < n → ne (el L j) = true) ∨ ∃ k : Nat, k < n ∧ e = .returned (.int .i64 k) ∧ ne (el L k) = false ∧ ∀ j, j < k → ne (el L j) = true) := by
  have HR := Lib.hid hr
  have HN := Lib.hid hn
  clear hr hn
  go_enter Tryz.func122, Tryz.ntmps122
  go_wp2
  go_loopw [8] (fun i wr => ∃ k : Nat, k ≤ n ∧ i = .int .i64 k ∧ (∀ j, j < k → ne (el L j) = true) ∧ Below w.heap.size w wr) (fun i _ => n - (intOf i).toNat)
  case atStart => exact ⟨0, by omega, rfl, fun j hj => by omega, Below.refl _ _⟩
  case round =>
    obtain ⟨k, hk, rfl, hall, hbel⟩ := hrel
    have HA := Lib.hid hall
    have HB := Lib.hid hbel
    clear hall hbel
    by_cases hlt : k < n
    · obtain ⟨c0, c1, c2⟩ := (HR.out.below HB.out).cells (i := k) (by rw [HN.out]; exact hlt)
      obtain ⟨x, hx⟩ : ∃ x, el L k = x := ⟨_, rfl⟩
      rw [hx] at c0 c1 c2
      have HX := Lib.hid hx
      obtain ⟨p, m, t⟩ := x
      dsimp only at c0 c1 c2
      have k1 : (0 : Int) ≤ (k : Int) := by omega
      have k2 : (k : Int) < (n : Int) := by omega
      clear hx
      by_cases hm : m = 0
      · subst hm
        go_wp2_with (go_at_call 107; refine (empty_any p 0 t _).mono ?_; rintro e w2 ⟨rfl, hb2⟩)
        go_ret
        exact ⟨up_trans HB.out hb2, .inr ⟨k, hlt, rfl, by rw [HX.out]; rfl, HA.out⟩⟩
      · have hd : (m == 0) = false := by simpa using hm
        have HM := Lib.hid hm
        clear hm
        go_wp2_with (go_at_call 107; refine (empty_any p m t _).mono ?_; rintro e w2 ⟨rfl, hb2⟩)
        go_roundw
        case rel =>
          refine ⟨k + 1, by omega, by go_num, fun j hj => ?_, up_trans HB.out hb2⟩
          by_cases ej : j = k
          · rw [ej, HX.out]; simp [ne]; exact HM.out
          · exact HA.out j (by omega)
        case measure => simp [intOf]; omega
    · obtain rfl : k = n := by omega
      go_wp2
      go_ret
      exact ⟨HB.out, .inl ⟨rfl, HA.out⟩⟩
theorem filter_all {L : List Rn} (h : ∀ j, j < L.length → ne (el L j) = true) : L.filter ne = L := by
  rw [List.filter_eq_self]
  intro r hr
  obtain ⟨i, hi, rfl⟩ := el_of_mem hr
  exact h i hi
theorem take_one {L : List Rn} {j : Nat} (h : j < L.length) : L.take (j + 1) = L.take j ++ [el L j] := by
  rw [List.take_succ_eq_append_getElem h]
  congr 2
  have := el_get h
  rw [List.getElem?_eq_getElem h] at this
  exact Option.some.inj this
/-- What stands in the row when the first j runs have been looked at: those that stay, and behind them what was. -/
structure Mv (n : Nat) (L : List Rn) (i j : Nat) (M : List Rn) : Prop where
  len : M.length = n
  hd : M.take i = (L.take j).filter ne
  lt : i < j
  tl : ∀ m, j ≤ m → el M m = el L m
theorem el_set {M : List Rn} {i m : Nat} (r : Rn) (h : m ≠ i) : el (M.set i r) m = el M m := by
  unfold el; rw [List.getD_eq_getElem?_getD, List.getD_eq_getElem?_getD, List.getElem?_set_ne (fun e => h e.symm)]
theorem Mv.put {n i j : Nat} {L M : List Rn} (h : Mv n L i j M) (hl : L.length = n) (hj : j < n) (hn : ne (el L j) = true) : Mv n L (i + 1) (j + 1) (M.set i (el L j)) := by
  have hlt := h.lt
  refine ⟨by rw [List.length_set]; exact h.len, ?_, by omega, fun m hm => by rw [el_set _ (by omega)]; exact h.tl m (by omega)⟩
  have hi : i < M.length := by rw [h.len]; omega
  rw [take_one (by omega : j < L.length), List.filter_append, List.filter_cons_of_pos hn, ← h.hd, List.take_succ_eq_append_getElem (by simpa using hi), List.take_set_of_le (Nat.le_refl _)]
  simp
theorem Mv.skip {n i j : Nat} {L M : List Rn} (h : Mv n L i j M) (hl : L.length = n) (hj : j < n) (hn : ne (el L j) = false) : Mv n L i (j + 1) M := by
  have hlt := h.lt
  refine ⟨h.len, ?_, by omega, fun m hm => h.tl m (by omega)⟩
  rw [take_one (by omega : j < L.length), List.filter_append, List.filter_cons_of_neg (by rw [hn]; simp), ← h.hd]; simp
theorem Mv.start {n k : Nat} {L : List Rn} (hl : L.length = n) (hk : k < n) (he : ne (el L k) = false) (ha : ∀ j, j < k → ne (el L j) = true) : Mv n L k (k + 1) L := by
  refine ⟨hl, ?_, by omega, fun m _ => rfl⟩
  rw [take_one (by omega : k < L.length), List.filter_append, List.filter_cons_of_neg (by rw [he]; simp)]
  have : (L.take k).filter ne = L.take k := by
    rw [List.filter_eq_self]
    intro r hr
    obtain ⟨i, hi, rfl⟩ := el_of_mem hr
    have hi' : i < k := by simp at hi; omega
    have e : el (L.take k) i = el L i := by
      unfold el; rw [List.getD_eq_getElem?_getD, List.getD_eq_getElem?_getD, List.getElem?_take, if_pos hi']
    rw [e]; exact ha i hi'
  rw [this]; simp
theorem Mv.final {n i : Nat} {L M : List Rn} (h : Mv n L i n M) (hl : L.length = n) : M.take i = L.filter ne ∧ (L.filter ne).length = i := by
  have e : L.take n = L := List.take_of_length_le (by omega)
  have := h.hd
  rw [e] at this
  refine ⟨this, ?_⟩
  rw [← this, List.length_take, h.len]
  have := h.lt; omega
theorem el_same {M : List Rn} {i : Nat} (r : Rn) (h : i < M.length) : el (M.set i r) i = r := el_is (by simp [h])
theorem Rw.put {w : World} {g cap : Nat} {L : List Rn} (h : Rw w g cap L) {i : Nat} (hi : i < L.length) (p m : Int) (t : Bool) :
    Rw (((w.setCell ⟨g, i * 3, none⟩ (.int .i64 p)).setCell ⟨g, i * 3 + 1, none⟩ (.int .i64 m)).setCell ⟨g, i * 3 + 2, none⟩ (.bool t)) g cap (L.set i ⟨p, m, t⟩) := by
  have h0 := h.set hi (k := 0) (by omega) ⟨p, (el L i).n, (el L i).t⟩ (.int .i64 p) rfl
  have h1 := h0.set (i := i) (by simpa using hi) (k := 1) (by omega) ⟨p, m, (el L i).t⟩ (.int .i64 m) (by rw [el_same _ hi]; rfl)
  rw [List.set_set] at h1
  have h2 := h1.set (i := i) (by simpa using hi) (k := 2) (by omega) ⟨p, m, t⟩ (.bool t) (by rw [el_same _ hi]; rfl)
  rw [List.set_set] at h2
  exact h2
theorem box3 {W w2 : World} {a b c : Value} {t : TypeId} (h : Below (W.alloc (.cells #[a, b, c] t)).heap.size (W.alloc (.cells #[a, b, c] t)) w2) :
    w2.cell? ⟨W.heap.size, 0, none⟩ = some a ∧ w2.cell? ⟨W.heap.size, 1, none⟩ = some b ∧ w2.cell? ⟨W.heap.size, 2, none⟩ = some c ∧ Below W.heap.size W w2 := by
  have hB : Blk (W.alloc (.cells #[a, b, c] t)) W.heap.size [a, b, c] t := heap_alloc_new W _
  have h2 := hB.of (h.block _ hB.lt)
  exact ⟨h2.cell, h2.cell, h2.cell, up_trans (up_alloc (Below.refl _ W) _) h⟩
set_option maxHeartbeats 1000000 in
theorem del_any {w : World} {g cap n : Nat} {L : List Rn} (hr : Rw w g cap L) (hn : L.length = n) (hl : n ≤ 8192) :
    Calls Tryz.prog 106 #[.slice (some ⟨g, 0, none⟩) n cap, .func (.func 107) #[] #[]] w fun e w' =>
      e = .returned (.slice (some ⟨g, 0, none⟩) (L.filter ne).length cap) ∧ Rw w' g cap (L.filter ne) ∧ w.grownBy w' (some g) := by
  have HR := Lib.hid hr
  have HN := Lib.hid hn
  have hcap := hr.fit
  rw [hn] at hcap
  have HF := Lib.hid (first_empty hr hn hl)
  clear hr hn
  go_enter Tryz.func106, Tryz.ntmps106
  go_wp2_with fail
  refine HF.out.mono ?_
  rintro e w1 ⟨B1, h⟩
  rcases h with ⟨rfl, hall⟩ | ⟨k, hk, rfl, he, ha⟩
  · have e1 := filter_all (L := L) (by rw [HN.out]; exact hall)
    have HB := Lib.hid B1
    clear hall B1
    go_wp2
    go_ret
    rw [e1, HN.out]
    exact ⟨rfl, HR.out.below HB.out, grown_below HB.out⟩
  · have HM := Lib.hid (Mv.start HN.out hk he ha)
    have HB := Lib.hid B1
    have hk0 : ((k : Int) == -1) = false := by simp
    clear he ha B1
    go_wp2_with fail
    go_loopw [5, 6] (fun i j wr => ∃ (i' j' : Nat) (M : List Rn), j' ≤ n ∧ i = .int .i64 i' ∧ j = .int .i64 j' ∧ Mv n L i' j' M ∧ Rw wr g cap M ∧ w.grownBy wr (some g)) (fun _ j _ => n - (intOf j).toNat)
    case atStart => exact ⟨k, k + 1, L, by omega, rfl, by go_num, HM.out, HR.out.below HB.out, grown_below HB.out⟩
    case round =>
      obtain ⟨i, j, M, hj, rfl, rfl, hm, hrw, hgr⟩ := hrel
      have hij := hm.lt
      have HM := Lib.hid hm
      have HRW := Lib.hid hrw
      have HG := Lib.hid hgr
      clear hm hrw hgr HB
      by_cases hlt : j < n
      · obtain ⟨c0, c1, c2⟩ := HRW.out.cells (i := j) (by rw [HM.out.len]; exact hlt)
        obtain ⟨d0, d1, d2⟩ := HRW.out.cells (i := i) (by rw [HM.out.len]; omega)
        have f0 := HRW.out.frozen (i * 3)
        have f1 := HRW.out.frozen (i * 3 + 1)
        have f2 := HRW.out.frozen (i * 3 + 2)
        have hgl := HRW.out.lt
        obtain ⟨x, hx⟩ : ∃ x, el L j = x := ⟨_, rfl⟩
        rw [HM.out.tl j (Nat.le_refl _), hx] at c0 c1 c2
        have HX := Lib.hid hx
        obtain ⟨p, m, t⟩ := x
        dsimp only at c0 c1 c2
        have k1 : (0 : Int) ≤ (j : Int) := by omega
        have k2 : (j : Int) < (n : Int) := by omega
        have k3 : (i : Int) < (n : Int) := by omega
        clear hx
        by_cases hmz : m = 0
        · subst hmz
          go_wp2_with (go_at_call 107; refine (empty_any p 0 t _).mono ?_; rintro e w2 ⟨rfl, hb2⟩)
          go_roundw
          case rel =>
            have hb3 := (box3 hb2).2.2.2
            exact ⟨i, j + 1, M, by omega, rfl, by go_num, HM.out.skip HN.out hlt (by rw [HX.out]; rfl), HRW.out.below hb3, grown_trans HG.out (grown_below hb3)⟩
          case measure => simp [intOf]; omega
        · have hd : (m == 0) = false := by simpa using hmz
          go_wp2_with fail
          refine (empty_any p m t _).mono ?_; rintro e w2 ⟨rfl, hb2⟩
          obtain ⟨b0, b1, b2, hb3⟩ := box3 hb2
          have HB3 := Lib.hid hb3
          have R2 := Lib.hid (HRW.out.below hb3)
          have g0 := R2.out.frozen (i * 3)
          have g1 := R2.out.frozen (i * 3 + 1)
          have g2 := R2.out.frozen (i * 3 + 2)
          obtain ⟨e0, e1, e2⟩ := R2.out.cells (i := i) (by rw [HM.out.len]; omega)
          have hne : wr.heap.size ≠ g := by omega
          have hir : (0 : Int) ≤ (i : Int) := by omega
          clear hb2 hb3 c0 c1 c2 d0 d1 d2 f0 f1 f2 hmz
          go_wp2
          refine ⟨⟨i + 1, j + 1, M.set i ⟨p, m, t⟩, by omega, by go_num, by go_num, ?_, R2.out.put (by rw [HM.out.len]; omega) p m t, ?_⟩, by simp [intOf]; omega⟩
          · have hnj : ne (el L j) = true := by rw [HX.out]; simp only [ne, bne, hd]; rfl
            have := HM.out.put HN.out hlt hnj
            rwa [HX.out] at this
          · exact grown_trans (grown_trans (grown_trans (grown_trans HG.out (grown_below HB3.out)) (grown_set _ _ _ _)) (grown_set _ _ _ _)) (grown_set _ _ _ _)
      · obtain rfl : j = n := by omega
        go_wp2_with fail
        obtain ⟨cur, hcb, hcl, hc1, hc2, hct⟩ := HRW.out
        obtain ⟨w3, cur', hrun, hb', hl', ht', hg'⟩ := run_clear3 wr 0 g (i * 3) (j - i) (cap - i) cur hcb (by omega) (by rw [hcl]; omega)
        rw [hrun]
        have HG3 := Lib.hid (grown_trans HG.out hg')
        obtain ⟨hm1, hm2⟩ := HM.out.final HN.out
        have HR3 : Hid (Rw w3 g cap (L.filter ne)) := by
          refine ⟨cur', hb', by rw [hl', hcl], by rw [hm2]; omega, hc2, ?_⟩
          rw [hm2, ht']
          have : cur.take (i * 3) = (cur.take (M.length * 3)).take (i * 3) := by rw [List.take_take, Nat.min_eq_left (by rw [HM.out.len]; omega)]
          rw [this, hct, rcs_take M i (by rw [HM.out.len]; omega), hm1]
        have HM2 := Lib.hid hm2
        clear hrun hb' hl' ht' hg' hcb hcl hc1 hc2 hct hm1 hm2
        go_wp2
        go_ret
        exact ⟨by rw [HM2.out]; rfl, HR3.out, HG3.out⟩
end Go.Proofs.YtjnknnakllbaaaaGreat.Sp
