/-
  What Some does, and where its list lies: a contract that the claimed proof uses.
-/
import Derived.Test.YtiemgeflkmbfoaaDoorOsCopy
namespace Go.Proofs.YtiemgeflkmbfoaaDoor.Os
set_option maxRecDepth 100000
open Go.RowKit
open Ta (sz szs classB classB_iff classB_not sizeOf' slotsOf)
open Bi (sets bt on first setL setB tst hasB u Blk Drawn grown_refl grown_trans grown_below up_alloc up_drew up_trans i64_in ret_i ret_b)

section
variable {w w' w2 : World} {s q g : Nat} {b c : Int} {l l' l2 : List Bool}
set_option maxHeartbeats 4000000 in
theorem some_fresh (n : Int) (h : Sl w s q g b c l) (hT : Tb w) : Calls Tryd.prog 31 #[.pointer (some ⟨s, 0, none⟩), .int .i64 n] w fun e w' =>
    ∃ A cap, e = .returned (.slice A (smM l n) cap) ∧ At w'.heap.size w' A (ints (smO b (sizeOf' c) l (smM l n))) ∧ (∀ g o, A = some ⟨g, o, none⟩ → w.heap.size ≤ g) ∧ Bec s g b c (smS l (smM l n)) w w' := by
  have HF := Lib.hid (free_any h)
  have HH := Lib.hid h
  have HT := Lib.hid hT
  have hml := smM_le l n
  have hl := h.len_le.2
  obtain ⟨f, hf⟩ : ∃ f, fr l = f := ⟨_, rfl⟩
  rw [hf] at HF
  obtain ⟨m, hm⟩ : ∃ m, smM l n = m := ⟨_, rfl⟩
  obtain ⟨F, hF⟩ : ∃ F : Int, (f : Int) = F := ⟨_, rfl⟩
  rw [hF] at HF
  obtain ⟨M, hM, hmM⟩ : ∃ M : Int, ((n ≤ F ∧ M = n) ∨ (¬ n ≤ F ∧ M = F)) ∧ ∀ k : Nat, decide ((k : Int) < M) = decide (k < m) := by
    by_cases h : n ≤ F
    · exact ⟨n, .inl ⟨h, rfl⟩, fun k => by rw [decide_eq_decide, ← hm]; unfold smM; rw [hf]; omega⟩
    · exact ⟨F, .inr ⟨h, rfl⟩, fun k => by rw [decide_eq_decide, ← hm]; unfold smM; rw [hf]; omega⟩
  have HMM := Lib.hid hmM
  rw [hm] at hml ⊢
  have hms : m ≤ 64 := by omega
  clear h hT hml hl hf hm hmM hF
  rcases hM with ⟨hM, rfl⟩ | ⟨hM, rfl⟩
  all_goals
    go_enter Tryd.func31, Tryd.ntmps31
    go_wp2_with fail
    refine HF.out.mono ?_
    rintro e w1 ⟨rfl, d1⟩
    have D1 := Lib.hid d1.below
    clear d1 HF
    go_wp2_with fail
    go_loopw [5, 12] (fun v i wr => ∃ (k : Nat) (o : List Int) (lk : List Bool) (qk gk : Nat), k ≤ m ∧ i = .int .i64 k ∧ wr.ownsRow w.heap.size 3 1 v k (ints o) ∧ o.length = k ∧ Sl wr s qk gk b c lk ∧ Fr s g w wr ∧ (gk = g ∨ w.heap.size ≤ gk) ∧ o ++ smO b (sizeOf' c) lk (m - k) = smO b (sizeOf' c) l m ∧ smS lk (m - k) = smS l m) (fun _ i _ => m - (intOf i).toNat)
    case atStart => exact ⟨0, [], l, q, g, by omega, rfl, World.ownsRow_nil _ _ _ _, rfl, HH.out.below D1.out, Fr.of D1.out, .inl rfl, rfl, rfl⟩
    case round =>
      obtain ⟨k, o, lk, qk, gk, hk, rfl, ho, hol, hs, hfr, hg, h1, h2⟩ := hrel
      obtain ⟨A0, n0, rfl⟩ := own_form ho
      have HO := Lib.hid ho
      have HOL := Lib.hid hol
      have HS := Lib.hid hs
      have HFr := Lib.hid hfr
      have HG := Lib.hid hg
      have H1 := Lib.hid h1
      have H2 := Lib.hid h2
      have hd := HMM.out k
      clear ho hol hs hfr hg h1 h2
      by_cases hlt : k < m
      · have HD1 := hd.trans (show decide (k < m) = true by simpa using hlt)
        have HTk := Lib.hid (HT.out.fr HFr.out HS.out.pos HH.out.gpos)
        have HTake := Lib.hid (take_any HS.out HTk.out)
        have hmk : m - k = (m - (k + 1)) + 1 := by omega
        rw [hmk] at H1 H2
        have H1' : Hid (o ++ tkV b (sizeOf' c) lk :: smO b (sizeOf' c) (tkL lk) (m - (k + 1)) = smO b (sizeOf' c) l m) := H1.out
        have H2' : Hid (smS (tkL lk) (m - (k + 1)) = smS l m) := H2.out
        obtain ⟨x, hx⟩ : ∃ x, tkV b (sizeOf' c) lk = x := ⟨_, rfl⟩
        obtain ⟨y, hy⟩ : ∃ y, tkE lk = y := ⟨_, rfl⟩
        rw [hx, hy] at HTake
        rw [hx] at H1'
        have hol2 : k ≤ 1048576 := by omega
        clear hd hmk hx hy H1 H2
        go_wp2_with fail
        refine HTake.out.mono ?_
        rintro e w2 ⟨rfl, h2⟩
        have H2b := Lib.hid h2
        have hkd := HS.out.kinds
        have HO2 := Lib.hid (own_far HO.out h2.fr hkd.1 hkd.2.2 (by decide) (by decide))
        have hsz := h2.fr.size
        have hsz1 := HFr.out.size
        clear h2 hkd HTake HO
        go_wp2_with (at_builtin; refine app_law el3 rfl _ _ rfl rfl (own_below HO2.out (up_alloc (Below.refl _ _) _)) rfl (show (w2.alloc (.cells #[.int .i64 x] 3)).heap[w2.heap.size]? = some (.cells [Value.int .i64 x].toArray 3 (0, 0)) from heap_alloc_last w2 _) rfl (by simp [Value.oneCell']) hol2 (by rw [World.size_alloc]; omega) ?_; intro g' cap' wa hoa hga hgw)
        go_roundw
        case rel =>
          obtain ⟨q3, g3, s3, f3, e3⟩ := H2b.out
          have hb4 : Below w2.heap.size w2 (w2.alloc (.cells #[.int .i64 x] 3)) := up_alloc (Below.refl _ _) _
          have hown := HO2.out
          have hkk : ∀ j, (Value.slice A0 k n0).ownBlock = some j → kind w2 j = 3 ∧ j < w2.heap.size := fun j hj => by
            obtain ⟨cur, hc⟩ := own_cells hown hj
            exact ⟨kind_of hc, (Array.getElem?_eq_some_iff.1 hc).1⟩
          have hstay : ∀ j, j < w2.heap.size → kind w2 j ≠ 3 → wa.heap[j]? = w2.heap[j]? := fun j hj hne => by
            rw [hga.out.block j (by rw [World.size_alloc]; omega) (fun e => hne (hkk j e.symm).1)]
            exact hb4.block j hj
          obtain ⟨kk1, kk2, kk3⟩ := s3.kinds
          obtain ⟨ll1, ll2, ll3⟩ := s3.lt
          have hbase := own_down hown (Nat.le_refl _)
          have F4 : Fr s g w wa := by
            have hf := HFr.out.trans f3 HG.out
            refine ⟨hga.out.os.trans hf.os, hga.out.tape.trans hf.tape, hga.out.output.trans hf.output, by have := hga.out.size; rw [World.size_alloc] at this; omega, fun j hj h1 h2 => ?_⟩
            refine Eq.trans ?_ (hf.block j hj h1 h2)
            rw [hga.out.block j (by rw [World.size_alloc]; omega) (fun e => by have := (HO2.out.lt j e.symm).1; omega)]
            exact hb4.block j (by omega)
          refine ⟨k + 1, o ++ [x], tkL lk, q3, g3, by omega, by go_num, by rw [show ints (o ++ [x]) = ints o ++ [.int .i64 x] from ints_snoc o x]; exact hoa.out, by simp [HOL.out], s3.of (hstay s ll1 (by rw [kk1]; decide)) (hstay q3 ll2 (by rw [kk2]; decide)) (hstay g3 ll3 (by rw [kk3]; decide)), F4, ?_, by rw [← H1'.out]; simp, H2'.out⟩
          rcases e3 with e | e
          · rw [e]; exact HG.out
          · right; omega
        case measure => simp [intOf]; omega
      · obtain rfl : k = m := by omega
        have HD1 := hd.trans (show decide (k < k) = false by simp)
        have HA := Lib.hid (own_at HO.out)
        have HE : Hid (o = smO b (sizeOf' c) l k ∧ lk = smS l k) := ⟨by have := H1.out; rw [Nat.sub_self] at this; rw [← this]; simp [smO], by have := H2.out; rwa [Nat.sub_self] at this⟩
        clear hd
        go_wp2
        go_ret
        obtain ⟨e1, e2⟩ := HE.out
        exact ⟨A0, n0, rfl, by rw [← e1]; exact HA.out, (fun g' o' e => Bi.own_base HO.out g' (by rw [e]; rfl)), qk, gk, by rw [← e2]; exact HS.out, HFr.out, HG.out⟩
end
end Go.Proofs.YtiemgeflkmbfoaaDoor.Os
