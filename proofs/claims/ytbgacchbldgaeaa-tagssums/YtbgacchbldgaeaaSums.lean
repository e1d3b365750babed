/-
  The walk of the statement on sums.
-/
import Derived.Test.YtbgacchbldgaeaaMoves
namespace Go.Proofs.Ytbgacchbldgaeaa
open Go.RowKit Go.Maps

/-! ### Pages and workers together are all -/
/-- How many rows are of a page up to p. -/
def upP (L : List Tr) (p : Int) : Nat := (L.filter fun r => decide (r.p ≤ p)).length
/-- How many slots the pages of the first i rows have. -/
def sl (L : List Tr) (i : Nat) : Nat := if h : 0 < i ∧ i ≤ L.length then upP L (L[i - 1]'(by omega)).p else 0
theorem len_split {L : List Tr} (f g h : Tr → Bool) (hs : ∀ x ∈ L, (f x = (g x || h x)) ∧ ¬ (g x = true ∧ h x = true)) : (L.filter f).length = (L.filter g).length + (L.filter h).length := by
  induction L with
  | nil => rfl
  | cons a L ih =>
    have ha := hs a (List.mem_cons_self ..)
    have := ih (fun x hx => hs x (List.mem_cons_of_mem _ hx))
    rw [List.filter_cons, List.filter_cons, List.filter_cons]
    cases hg : g a <;> cases hh : h a <;> simp_all <;> omega
theorem lt_of_ord {L : List Tr} (h : L.Pairwise ltR) {i j : Nat} (hij : i < j) (hj : j < L.length) : ltR (L[i]'(by omega)) L[j] := (List.pairwise_iff_getElem.1 h) i j (by omega) hj hij
theorem sl_same {L : List Tr} {i : Nat} (hi : 0 < i) (hl : i < L.length) (he : L[i].p = (L[i - 1]'(by omega)).p) : sl L (i + 1) = sl L i := by
  unfold sl
  rw [dif_pos ⟨by omega, by omega⟩, dif_pos ⟨hi, by omega⟩]
  simp only [Nat.add_sub_cancel, he]
theorem sl_first {L : List Tr} (h : L.Pairwise ltR) (hl : 0 < L.length) : sl L 1 = (inP L L[0].p).length := by
  unfold sl upP inP
  rw [dif_pos ⟨by omega, by omega⟩]
  simp only [Nat.sub_self]
  congr 1
  refine List.filter_congr (fun x hx => ?_)
  obtain ⟨j, hj, rfl⟩ := List.getElem_of_mem hx
  rcases Nat.eq_zero_or_pos j with rfl | hp
  · simp
  · have := lt_of_ord h hp hj
    unfold ltR at this
    rw [Bool.eq_iff_iff, decide_eq_true_eq, beq_iff_eq]
    omega
theorem sl_next {L : List Tr} (h : L.Pairwise ltR) {i : Nat} (hi : 0 < i) (hl : i < L.length) (he : L[i].p ≠ (L[i - 1]'(by omega)).p) : sl L (i + 1) = sl L i + (inP L L[i].p).length := by
  have h0 := lt_of_ord h (show i - 1 < i by omega) hl
  unfold sl upP inP
  rw [dif_pos ⟨by omega, by omega⟩, dif_pos ⟨hi, by omega⟩]
  simp only [Nat.add_sub_cancel]
  refine len_split _ _ _ (fun x hx => ?_)
  obtain ⟨j, hj, rfl⟩ := List.getElem_of_mem hx
  have h1 : j < i → (L[j].p ≤ (L[i - 1]'(by omega)).p) := fun hji => by
    rcases Nat.lt_or_ge j (i - 1) with h2 | h2
    · have := lt_of_ord h h2 (by omega); unfold ltR at this; omega
    · have e : j = i - 1 := by omega
      subst e; exact Int.le_refl _
  have h2 : i ≤ j → L[i].p ≤ L[j].p := fun hij => by
    rcases Nat.lt_or_ge i j with h3 | h3
    · have := lt_of_ord h h3 hj; unfold ltR at this; omega
    · have e : i = j := by omega
      subst e; exact Int.le_refl _
  unfold ltR at h0
  rw [Bool.eq_iff_iff]
  simp only [Bool.or_eq_true, decide_eq_true_eq, beq_iff_eq]
  rcases Nat.lt_or_ge j i with hji | hji
  · have := h1 hji; omega
  · have := h2 hji; omega
theorem sl_all {L : List Tr} (h : L.Pairwise ltR) : sl L L.length = L.length := by
  unfold sl
  by_cases hl : 0 < L.length
  · rw [dif_pos ⟨hl, Nat.le_refl _⟩]
    unfold upP
    rw [List.filter_eq_self.2 (fun x hx => ?_)]
    obtain ⟨j, hj, rfl⟩ := List.getElem_of_mem hx
    rw [decide_eq_true_eq]
    rcases Nat.lt_or_ge j (L.length - 1) with h2 | h2
    · have := lt_of_ord h h2 (by omega); unfold ltR at this; omega
    · have e : j = L.length - 1 := by omega
      subst e; exact Int.le_refl _
  · rw [dif_neg (by omega)]; omega
theorem sl_le {L : List Tr} (i : Nat) : sl L i ≤ L.length := by
  unfold sl; split
  · exact List.length_filter_le _ _
  · omega
/-- How many rows are of a worker below k. -/
def upW (L : List Tr) (k : Nat) : Nat := (L.filter fun r => decide (r.k < (k : Int))).length
theorem upW_zero {L : List Tr} (h : Wf L) : upW L 0 = 0 := by
  unfold upW
  rw [List.filter_eq_nil_iff.2 (fun x hx => ?_)]; rfl
  have := (Tr.ok_bd (h.ok x hx)).2
  simp; omega
theorem upW_step {L : List Tr} (k : Nat) : upW L (k + 1) = upW L k + (ofW L k).length := by
  unfold upW ofW
  refine len_split _ _ _ (fun x hx => ?_)
  rw [Bool.eq_iff_iff]
  simp only [Bool.or_eq_true, decide_eq_true_eq, beq_iff_eq]
  omega
theorem upW_all {L : List Tr} (h : Wf L) : upW L 64 = L.length := by
  unfold upW
  rw [List.filter_eq_self.2 (fun x hx => ?_)]
  have := (Tr.ok_bd (h.ok x hx)).2
  rw [decide_eq_true_eq]; omega
theorem upW_le (L : List Tr) (k : Nat) : upW L k ≤ L.length := List.length_filter_le _ _
theorem of_none {L : List Tr} (h : Wf L) : ofW L 64 = [] := by
  unfold ofW
  rw [List.filter_eq_nil_iff]
  intro x hx
  have := (Tr.ok_bd (h.ok x hx)).2
  simp; omega
/-- What the law's loop keeps. -/
structure Sv (w V : World) (q b P : Nat) (L : List Tr) : Prop where
  bo : Bo V q b P L
  bel : Below w.heap.size w V
  kb : w.heap.size ≤ b
  kP : w.heap.size ≤ P
theorem Sv.done {w V V' : World} {q b P : Nat} {L L' : List Tr} (h : Sv w V q b P L) (hb : Bo V' q b P L') (hf : Fr b P V V') : Sv w V' q b P L' := ⟨hb, h.bel.trans (hf.below h.kb h.kP h.bel.size), h.kb, h.kP⟩
set_option maxRecDepth 100000 in
set_option maxHeartbeats 8000000 in
theorem sums_any (A : Option Addr) (l : List Cl) (c : Nat) (w : World) (hcs : CA w.heap.size w A l) :
    Calls Try.prog 5 #[.slice A l.length c] w fun e w' => e = .returned (.bool true) ∧ Below w.heap.size w w' := by
  obtain ⟨N, hN⟩ : ∃ N, l.length = N := ⟨_, rfl⟩
  have HN := Lib.hid hN
  have HCs := Lib.hid hcs
  rw [hN]
  clear hcs hN
  by_cases hbig : 100 < N
  · have hd : decide ((100 : Int) < (N : Int)) = true := by simp; omega
    go_enter Try.func5, Try.ntmps5
    go_wp2_with fail
    refine (alive_any _).mono ?_
    rintro e w2 ⟨rfl, b2⟩
    have HB2 := Lib.hid b2
    clear b2
    go_wp2_with fail
    go_ret
    exact ⟨rfl, HB2.out⟩
  have hd : decide ((100 : Int) < (N : Int)) = false := by simp; omega
  have hNl : N ≤ 100 := by omega
  go_enter Try.func5, Try.ntmps5
  go_wp2_with fail
  refine (alive_any _).mono ?_
  rintro e w2 ⟨rfl, b2⟩
  have HB2 := Lib.hid b2
  have HNew := Lib.hid (new_any w2)
  have hs2 := b2.size
  clear b2
  go_wp2_with fail
  refine HNew.out.mono ?_
  rintro e w3 ⟨rfl, t3, b3, s3⟩
  obtain ⟨q, hq⟩ : ∃ q, w2.heap.size + 1 = q := ⟨_, rfl⟩
  obtain ⟨b, hb⟩ : ∃ b, w2.heap.size = b := ⟨_, rfl⟩
  have hkb : w.heap.size ≤ b := by omega
  have hsz3 := b3.size
  have hal := up_alloc (Below.refl w3.heap.size w3) (.cells #[.slice none 0 0] 33)
  have HMv : Hid (Sv w (w3.alloc (.cells #[.slice none 0 0] 33)) q b w3.heap.size []) := by
    rw [hq, hb] at t3
    exact ⟨⟨t3.below hal, _, ⟨Blk.new w3 [.slice none 0 0] 33, World.ownsRow_nil _ _ _ _⟩⟩, up_trans (up_trans HB2.out b3) hal, hkb, by omega⟩
  rw [hq]
  obtain ⟨P, hP⟩ : ∃ P, w3.heap.size = P := ⟨_, rfl⟩
  rw [hP] at HMv
  obtain ⟨w4, hw4⟩ : ∃ w4, w3.alloc (.cells #[.slice none 0 0] 33) = w4 := ⟨_, rfl⟩
  rw [hw4] at HMv
  clear HNew t3 b3 s3 hq hb HB2 hal hsz3 hkb hs2
  go_wp2_with fail
  clear hw4 hP
  go_loopw [5] (fun i wr => ∃ (j : Nat) (L : List Tr), j ≤ N ∧ i = .int .i64 j ∧ Sv w wr q b P L) (fun i _ => N - (intOf i).toNat)
  case atStart => exact ⟨0, [], by omega, rfl, HMv.out⟩
  case round =>
    obtain ⟨j, L, hj, rfl, hm⟩ := hrel
    have HM := Lib.hid hm
    clear hm HMv
    by_cases hlt : j < N
    · have hjl : j < l.length := by rw [HN.out]; exact hlt
      obtain ⟨cb, co, rfl, _, i1, i2, c0, c1, c2, c3, c4, c5, c6⟩ := (HCs.out.below HM.out.bel) j hjl
      obtain ⟨x, hx⟩ : ∃ x, l[j] = x := ⟨_, rfl⟩
      rw [hx] at i1 i2 c0 c1 c2 c3 c4 c5 c6
      obtain ⟨xc, xp, xs, xp2, xs2, xk, xz⟩ := x
      simp only [] at i1 i2 c0 c1 c2 c3 c4 c5 c6
      have HDo := Lib.hid (do_any HM.out.bo xc ⟨xp, xs, xk, xz⟩ xp2 xs2 i1 i2)
      simp only [] at HDo
      have j1 : (0 : Int) ≤ (j : Int) := by omega
      have j2 : (j : Int) < (N : Int) := by omega
      clear hx hjl i1 i2
      go_wp2_with fail
      refine HDo.out.mono ?_
      rintro e w5 ⟨rfl, bo5, f5⟩
      have HM5 := Lib.hid (HM.out.done bo5 f5)
      clear bo5 f5 HDo c0 c1 c2 c3 c4 c5 c6
      go_wp2_with fail
      go_roundw
      case rel => exact ⟨j + 1, _, by omega, by go_num, HM5.out⟩
      case measure => simp [intOf]; omega
    · obtain rfl : j = N := by omega
      have T0 := Lib.hid HM.out.bo.tg
      have HWL := Lib.hid HM.out.bo.tg.wf
      have hlen := HM.out.bo.tg.wf.len
      have HB0 := Lib.hid HM.out.bel
      clear HM hlt hj
      go_wp2_with fail
      refine (rows_any T0.out).mono ?_
      rintro e w5 ⟨A1, ca1, rfl, at1, b5⟩
      obtain ⟨n, hn⟩ : ∃ n, L.length = n := ⟨_, rfl⟩
      have HLn := Lib.hid hn
      rw [hn] at hlen ⊢
      have T5 := Lib.hid (T0.out.below b5)
      have HB5 := Lib.hid (up_trans HB0.out b5)
      have HA1 := Lib.hid at1
      clear at1 b5 hn T0 HB0
      go_wp2_with fail
      go_loopw [7, 8, 9] (fun x y i wr => ∃ j : Nat, j ≤ n ∧ i = .int .i64 j ∧ x = .int .i64 (bytes (L.take j)) ∧ y = .int .i64 (sl L j : Nat) ∧ Below w5.heap.size w5 wr) (fun _ _ i _ => n - (intOf i).toNat)
      case atStart => exact ⟨0, by omega, rfl, rfl, rfl, Below.refl _ _⟩
      case round =>
        obtain ⟨j, hj, rfl, rfl, rfl, hb⟩ := hrel
        have HB := Lib.hid hb
        clear hb
        by_cases hlt : j < n
        · have hkl : j < L.length := by rw [HLn.out]; exact hlt
          obtain ⟨rb, ro, rfl, hrb, q0, q1, q2, q3⟩ := (HA1.out.below HB.out).row hkl
          have hxo := HWL.out.ok _ (List.getElem_mem hkl)
          have hby : Hid (bytes (L.take (j + 1)) = bytes (L.take j) + L[j].z) := by show _ = _; rw [List.take_succ_eq_append_getElem hkl, bytes_snoc]
          have hbd := bytes_bd (L := L.take j) (fun r hr => HWL.out.ok r (List.mem_of_mem_take hr))
          have htl : (L.take j).length ≤ j := by rw [List.length_take]; omega
          have hsle := sl_le (L := L) j
          rw [HLn.out] at hsle
          have HT := Lib.hid (T5.out.below HB.out)
          have hcase : (j = 0 ∧ Hid (sl L (j + 1) = (sl L j) + (inP L L[j].p).length)) ∨ (∃ J, j = J + 1 ∧ ∃ hJ : J < L.length, (L[j].p ≠ L[J].p ∧ L[J].p < L[j].p ∧ Hid (sl L (j + 1) = sl L j + (inP L L[j].p).length)) ∨ (L[j].p = L[J].p ∧ L[J].s < L[j].s ∧ Hid (sl L (j + 1) = sl L j))) := by
            rcases Nat.eq_zero_or_pos j with h0 | hp
            · left
              refine ⟨h0, ?_⟩
              subst h0
              show _ = _
              rw [sl_first HWL.out.ord hkl]
              have : sl L 0 = 0 := by unfold sl; rw [dif_neg (by omega)]
              rw [this, Nat.zero_add]
            · right
              refine ⟨j - 1, by omega, by omega, ?_⟩
              have hlt2 := lt_of_ord HWL.out.ord (show j - 1 < j by omega) hkl
              unfold ltR at hlt2
              by_cases he : L[j].p = (L[j - 1]'(by omega)).p
              · right; exact ⟨he, by omega, sl_same hp hkl he⟩
              · left; exact ⟨he, by omega, sl_next HWL.out.ord hp hkl he⟩
          have HIn := Lib.hid (fun V hV => in_any (T5.out.below (w' := V) hV) (p := L[j].p) (Tr.ok_p hxo))
          obtain ⟨ip, hip⟩ : ∃ ip, (inP L L[j].p).length = ip := ⟨_, rfl⟩
          have hipl : ip ≤ n := by rw [← hip, ← HLn.out]; exact List.length_filter_le _ _
          simp only [hip] at hcase HIn
          have HPl := Lib.hid (fun W => rplace_any L[j].p L[j].s W)
          have HTg := Lib.hid (fun W => rtag_any L[j].k L[j].z W)
          rw [(Tr.ok_iff.1 hxo).1] at HPl
          rw [(Tr.ok_iff.1 hxo).2] at HTg
          have hzb := (Tr.ok_bd hxo).2
          have j1 : (0 : Int) ≤ (j : Int) := by omega
          have j2 : (j : Int) < (n : Int) := by omega
          have hwr1 := i64_in (bytes (L.take j) + L[j].z) (by omega) (by omega)
          have hwr2 := i64_in ((sl L j : Int) + (ip : Int)) (by omega) (by omega)
          have hwr3 := i64_in ((j : Int) - 1) (by omega) (by omega)
          have hprev : ∀ J, j = J + 1 → ∀ hJ : J < L.length, wr.cell? ⟨rb, ro + J * 4, none⟩ = some (.int .i64 L[J].p) ∧ wr.cell? ⟨rb, ro + J * 4 + 1, none⟩ = some (.int .i64 L[J].s) := fun J _ hJ => by
            obtain ⟨rb', ro', e, _, p0, p1, _, _⟩ := (HA1.out.below HB.out).row hJ
            cases e
            exact ⟨p0, p1⟩
          have HPrev := Lib.hid hprev
          have HQ3 : Hid (∀ V, Below w5.heap.size w5 V → V.cell? ⟨rb, ro + j * 4 + 3, none⟩ = some (.int .i64 L[j].z)) := fun V hV => by
            obtain ⟨rb', ro', e, _, _, _, _, p3⟩ := (HA1.out.below hV).row hkl
            cases e
            exact p3
          obtain ⟨x, hx⟩ : ∃ x, L[j] = x := ⟨_, rfl⟩
          rw [hx] at q0 q1 q2 q3 hby HPl HTg HIn hwr1 HQ3
          simp only [hx] at hcase
          obtain ⟨xp, xs, xk, xz⟩ := x
          simp only [] at q0 q1 q2 q3 hby HPl HTg HIn hwr1 hcase HQ3
          generalize bytes (L.take j) = Y at *
          generalize sl L j = S at *
          clear hbd hzb hxo hip hx hprev hkl hsle htl
          rcases hcase with ⟨h0, hsl⟩ | ⟨J, hJ1, hJ, ⟨hne, hlp, hsl⟩ | ⟨heq, hls, hsl⟩⟩
          · subst h0
            simp only [Nat.zero_mul, Nat.add_zero] at q0 q1 q2 q3 HQ3
            go_wp2_with fail
            go_quiet ((first | (go_at_call 25; exact Calls.quiet_of_same ((HPl.out _).mono fun e w' he => ⟨he.1, he.2.symm⟩)) | (go_at_call 26; exact Calls.quiet_of_same ((HTg.out _).mono fun e w' he => ⟨he.1, he.2.symm⟩))))
            go_wp2_with fail
            go_quiet (fail)
            go_wp2_with fail
            go_quiet (fail)
            go_wp2_with fail
            refine (HIn.out _ (up_drew HB.out _)).mono ?_
            rintro e w7 ⟨A7, c7, rfl, _, b7⟩
            have B7 := Lib.hid (up_trans (up_drew HB.out _) b7)
            have r3 := HQ3.out _ B7.out
            clear b7
            go_wp2_with fail
            go_roundw
            case rel => exact ⟨0 + 1, by omega, by go_num, by rw [hby.out], by rw [hsl.out]; first | rfl | (simp), B7.out⟩
            case measure => simp [intOf]; omega
          · obtain ⟨p0, p1⟩ := HPrev.out J hJ1 hJ
            obtain ⟨yp, hyp⟩ : ∃ yp, L[J].p = yp := ⟨_, rfl⟩
            obtain ⟨ys, hys⟩ : ∃ ys, L[J].s = ys := ⟨_, rfl⟩
            rw [hyp] at p0 hne hlp
            rw [hys] at p1
            have hjm : (j : Int) - 1 = (J : Int) := by omega
            have j3 : (0 : Int) ≤ (J : Int) := by omega
            have j4 : (J : Int) < (n : Int) := by omega
            have d0 : decide ((0 : Int) < (j : Int)) = true := by simp; omega
            have d1 : ((j : Int) == 0) = false := by simp; omega
            have d0n : decide (0 < j) = true := by simp; omega
            have d0m : 0 < j := by omega
            have d1n : (j == 0) = false := by simp; omega
            have d1m : ¬ j = 0 := by omega
            have d2 : decide (xp < yp) = false := by simp; omega
            have d3 : (xp == yp) = false := by simpa using hne
            have d4 : (xp != yp) = true := by simpa using hne
            clear hne hlp hyp hys hJ hJ1
            go_wp2_with fail
            go_quiet ((first | (go_at_call 25; exact Calls.quiet_of_same ((HPl.out _).mono fun e w' he => ⟨he.1, he.2.symm⟩)) | (go_at_call 26; exact Calls.quiet_of_same ((HTg.out _).mono fun e w' he => ⟨he.1, he.2.symm⟩))))
            go_wp2_with fail
            go_quiet (fail)
            go_wp2_with fail
            go_quiet (fail)
            go_wp2_with fail
            refine (HIn.out _ (up_drew HB.out _)).mono ?_
            rintro e w7 ⟨A7, c7, rfl, _, b7⟩
            have B7 := Lib.hid (up_trans (up_drew HB.out _) b7)
            have r3 := HQ3.out _ B7.out
            clear b7
            go_wp2_with fail
            go_roundw
            case rel => exact ⟨j + 1, by omega, by go_num, by rw [hby.out], by rw [hsl.out]; first | rfl | (simp), B7.out⟩
            case measure => simp [intOf]; omega
          · obtain ⟨p0, p1⟩ := HPrev.out J hJ1 hJ
            obtain ⟨ys, hys⟩ : ∃ ys, L[J].s = ys := ⟨_, rfl⟩
            rw [← heq] at p0
            rw [hys] at p1 hls
            have hjm : (j : Int) - 1 = (J : Int) := by omega
            have j3 : (0 : Int) ≤ (J : Int) := by omega
            have j4 : (J : Int) < (n : Int) := by omega
            have d0 : decide ((0 : Int) < (j : Int)) = true := by simp; omega
            have d1 : ((j : Int) == 0) = false := by simp; omega
            have d0n : decide (0 < j) = true := by simp; omega
            have d0m : 0 < j := by omega
            have d1n : (j == 0) = false := by simp; omega
            have d1m : ¬ j = 0 := by omega
            have d2 : decide (xs ≤ ys) = false := by simp; omega
            clear heq hls hys hJ hJ1
            go_wp2_with fail
            go_quiet ((first | (go_at_call 25; exact Calls.quiet_of_same ((HPl.out _).mono fun e w' he => ⟨he.1, he.2.symm⟩)) | (go_at_call 26; exact Calls.quiet_of_same ((HTg.out _).mono fun e w' he => ⟨he.1, he.2.symm⟩))))
            go_wp2_with fail
            go_quiet (fail)
            go_wp2_with fail
            go_quiet (fail)
            go_wp2_with fail
            go_roundw
            case rel => exact ⟨j + 1, by omega, by go_num, by rw [hby.out], by rw [hsl.out], up_drew HB.out _⟩
            case measure => simp [intOf]; omega
        · obtain rfl : j = n := by omega
          have hsl := sl_all HWL.out.ord
          rw [HLn.out] at hsl
          have htk : L.take j = L := List.take_of_length_le (by rw [HLn.out]; omega)
          rw [hsl, htk]
          have T6 := Lib.hid (T5.out.below HB.out)
          have HB6 := Lib.hid (up_trans HB5.out HB.out)
          have HBq := Lib.hid HB.out
          clear hsl htk hlt hj HB
          go_wp2_with fail
          go_loopw [10, 11] (fun x i vr => ∃ m : Nat, m ≤ 64 ∧ i = .int .i64 m ∧ x = .int .i64 (upW L m : Nat) ∧ Below wr.heap.size wr vr) (fun _ i _ => 64 - (intOf i).toNat)
          case atStart => exact ⟨0, by omega, rfl, by rw [upW_zero HWL.out]; rfl, Below.refl _ _⟩
          case round =>
            obtain ⟨m, hm, rfl, rfl, hb⟩ := hrel
            have HBv := Lib.hid hb
            have T7 := Lib.hid (T6.out.below hb)
            have hul := upW_le L m
            rw [HLn.out] at hul
            clear hb
            by_cases hlt : m < 64
            · have hst : Hid ((upW L (m + 1) : Int) = upW L m + (ofW L m).length) := by show _ = _; rw [upW_step]; simp
              have hol : (ofW L m).length ≤ j := by rw [← HLn.out]; exact List.length_filter_le _ _
              have HOf := Lib.hid (of_any T7.out (m : Int))
              have hd2 : decide ((m : Int) < 64) = true := by simp; omega
              have hwr := i64_in ((upW L m : Int) + ((ofW L m).length : Int)) (by omega) (by omega)
              generalize (ofW L (m : Int)).length = z at *
              generalize upW L m = y at *
              go_wp2_with fail
              refine HOf.out.mono ?_
              rintro e w7 ⟨A7, c7, rfl, _, b7⟩
              have B7 := Lib.hid (up_trans HBv.out b7)
              clear b7 HOf
              go_wp2_with fail
              go_roundw
              case rel => exact ⟨m + 1, by omega, by go_num, by rw [hst.out], B7.out⟩
              case measure => simp [intOf]; omega
            · obtain rfl : m = 64 := by omega
              have hall := upW_all HWL.out
              rw [HLn.out] at hall
              rw [hall]
              have HCn := Lib.hid (count_any T7.out)
              rw [HLn.out] at HCn
              have HBy := Lib.hid (bytes_any T7.out)
              have HB7 := Lib.hid (up_trans HB6.out HBv.out)
              have hof := of_none HWL.out
              have HOf : Hid (∀ V, Below w5.heap.size w5 V → Calls Try.prog 10 #[.pointer (some ⟨q, 0, none⟩), .int .i64 64] V fun e w' => ∃ A c, e = .returned (.slice A 0 c) ∧ Below V.heap.size V w') := fun V hV => (of_any (T5.out.below hV) 64).mono fun e w' ⟨A, c, he, _, hb⟩ => ⟨A, c, by rw [he, hof]; rfl, hb⟩
              have HBr := Lib.hid (up_trans HBq.out HBv.out)
              generalize bytes L = Y at *
              clear hall hof hul hlt hm
              go_wp2_with (first
                | (go_at_call 17; refine HCn.out.mono ?_; rintro e w' ⟨rfl, rfl⟩)
                | (go_at_call 18; refine HBy.out.mono ?_; rintro e w8 ⟨rfl, b8⟩; have HB8 := Lib.hid (up_trans HB7.out b8); have HB8' := Lib.hid (up_trans HBr.out b8); clear b8)
                | (go_at_call 10; refine (HOf.out _ HB8'.out).mono ?_; rintro e w9 ⟨A9, c9, rfl, b9⟩; have HB9 := Lib.hid (up_trans HB8.out b9); clear b9))
              go_ret
              exact ⟨by simp, HB9.out⟩
end Go.Proofs.Ytbgacchbldgaeaa
