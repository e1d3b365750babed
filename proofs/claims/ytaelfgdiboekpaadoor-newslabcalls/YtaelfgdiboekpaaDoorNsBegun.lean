/-
  A slab that is begun and told calls: a contract that the claimed proofs use.
-/
import Derived.Test.YtaelfgdiboekpaaDoorNsDone
import Derived.Test.YtaelfgdiboekpaaDoorNsAlive
namespace Go.Proofs.YtaelfgdiboekpaaDoor.Ns
set_option maxRecDepth 100000
open Go.RowKit
open Ce (u y ldW Mem)
open Bi (Blk Drawn hasB hasB_iff hasB_not up_alloc up_drew up_trans i64_in ret_i ret_b grown_refl grown_trans grown_below)

/-- A slab that was begun, and told calls. -/
def Bgn (c : Nat) (w : World) (e : Ending) (w' : World) : Prop := ∃ s q g S L, e = .returned (.tuple #[.pointer (some ⟨q, 0, none⟩), .pointer (some ⟨s, 0, none⟩)]) ∧ Ev w w' s q g 1024 c S L ∧ S.bs.length = 3072
theorem doB_len {b c : Nat} {S : SS} {L : List Nat} {X : Cl} (o : Ok b c S.bs.length S L) (hc : c < 12) (hb : b + 1024 ≤ S.bs.length) : (doB b c S L X).length = S.bs.length := by
  unfold doB
  split
  · exact gvS_len hc hb
  · split
    · exact gaS_len o hc hb
    · rfl
set_option maxHeartbeats 4000000 in
theorem begun_any (c : Nat) (x : BitVec 8) (P : Option Addr) (l : List Cl) (n cap : Nat) (w : World) (hT : Tb.Tab w) (hc : c < 12) (hC : CA w P l) (hn : l.length = n) (hg : greatB 0 l = false) :
    Calls Tryd.prog 24 #[.int .i64 (c : Int), .int .u8 (y x), .slice P n cap] w (Bgn c w) := by
  obtain ⟨_, hl60, hl⟩ := great_no hg
  obtain ⟨g, hgg⟩ : ∃ g, w.heap.size = g := ⟨_, rfl⟩
  have h2 := hT.lt
  obtain ⟨w1, hw1⟩ : ∃ w1, (w.alloc (.cells (madeCells #[.int .u8 0] 3072) 5)).alloc (.cells #[.slice (some ⟨w.heap.size, 0, none⟩) 3072 3072] 98) = w1 := ⟨_, rfl⟩
  have HN := Lib.hid (Ce.new_yes 3072 (by omega) w)
  rw [hw1] at HN
  have hm1 : Mem w1 (g + 1) g (List.replicate 3072 0#8) := by rw [← hw1, ← hgg]; exact Ce.Mem.made w 3072 (by omega)
  have hb1 : Below w.heap.size w w1 := by rw [← hw1]; exact up_alloc (up_alloc (Below.refl _ _) _) _
  have HF := Lib.hid (Ce.fill_yes (g + 1) g _ 0 3072 x w1 hm1 (by simp))
  obtain ⟨bs, hbs⟩ : ∃ bs, splice (List.replicate 3072 0#8) 0 (List.replicate 3072 x) = bs := ⟨_, rfl⟩
  have hbl : bs.length = 3072 := by rw [← hbs, Ce.splice_length (by simp)]; simp
  unfold Ce.Wrote at HF
  rw [hbs] at HF
  obtain ⟨q, hq⟩ : ∃ q, g + 1 = q := ⟨_, rfl⟩
  rw [hq] at HF hm1
  rw [hgg, hq] at HN
  have HQ : Hid (w.heap.size ≤ q ∧ w.heap.size ≤ g ∧ 1 < q ∧ 1 < g) := by show _ ∧ _ ∧ _ ∧ _; omega
  have HB1 := Lib.hid hb1
  have HBl := Lib.hid hbl
  have HT := Lib.hid hT
  have HC := Lib.hid hC
  have HLn := Lib.hid hn
  have HL := Lib.hid hl
  have Hc := Lib.hid hc
  have hn60 : n ≤ 60 := by omega
  clear hT hC hn hg hl hl60 hgg h2 hw1 hm1 hb1 hbs hbl hq hc
  go_enter Tryd.func24, Tryd.ntmps24
  go_wp2_with fail
  refine HN.out.mono ?_
  rintro e w' ⟨rfl, rfl⟩
  clear HN
  go_wp2_with fail
  refine HF.out.mono ?_
  rintro e w2 ⟨rfl, m2, g2⟩
  have B2 : Hid (Below w.heap.size w w2) := HB1.out.grown g2 HB1.out.size (fun _ e => by cases e; exact HQ.out.2.1)
  have HW := Lib.hid ((new_yes (b := 1024) (c := c) m2 (HT.out.below B2.out) Hc.out (by rw [HBl.out]; decide +kernel) HQ.out.2.2).mono (fun e w' h => h.ev (bl_ok Hc.out (by omega) (nS c) ⟨bs, 0, 0⟩ [] (Nat.le_refl _) (fun k hk => by cases hk) (ok_zero HBl.out)) B2.out ⟨HQ.out.1, HQ.out.2.1⟩))
  generalize tkn [] (nS c) ++ [] = L0 at HW
  generalize bl 1024 c [] (nS c) ⟨bs, 0, 0⟩ = S0 at HW
  clear m2 g2 HF HBl HB1
  go_wp2_with fail
  refine HW.out.mono ?_
  rintro e w3 ⟨s, rfl, E3, -, n3, -⟩
  have E3 := Lib.hid E3
  have N3 := Lib.hid n3
  clear n3 HW B2
  go_wp2_with fail
  go_loopw [12] (fun i wr => ∃ (k : Nat) (S : SS) (L : List Nat), k ≤ n ∧ i = .int .i64 (k : Int) ∧ Ev w wr s q g 1024 c S L ∧ S.bs.length = 3072) (fun i _ => n - (intOf i).toNat)
  case atStart => exact ⟨0, S0, L0, by omega, rfl, E3.out, N3.out⟩
  case round =>
    obtain ⟨k, S, L, hk, rfl, he, hs⟩ := hrel
    have HE := Lib.hid he
    have HS := Lib.hid hs
    clear he hs
    by_cases hlt : k < n
    · have hkl : k < l.length := by rw [HLn.out]; exact hlt
      have hCr := HC.out.up (HE.out.bel)
      obtain ⟨b', o', rfl, -, c0, c1, c2, c3, hin, ha, -⟩ := hCr k hkl
      have hX2 := (HL.out k hkl).1
      obtain ⟨X, hX⟩ : ∃ X, l[k] = X := ⟨_, rfl⟩
      rw [hX] at c0 c1 c2 c3 hin ha hX2
      have hm12 : o' + k * 4 = o' + k * 4 := rfl
      have j1 : (0 : Int) ≤ (k : Int) := by omega
      have j2 : (k : Int) < (n : Int) := by omega
      by_cases h4 : X.x = 4
      · have d4 : (X.x != 4) = false := by simp [h4]
        clear hin ha hX2 hkl hX hCr h4 c1 c2 c3 hm12
        go_wp2_with fail
        go_roundw
        case rel => exact ⟨k + 1, S, L, by omega, by go_num, HE.out, HS.out⟩
        case measure => simp [intOf]; omega
      · have d4 : (X.x != 4) = true := by simpa using h4
        have HD := Lib.hid (done_any X HE.out hin ha (by omega) h4)
        have HNl := Lib.hid (doB_len (X := X) HE.out.ok Hc.out HE.out.sb.fit)
        unfold Did Cl.val at HD
        clear hin ha hX2 hkl hX hCr h4 hm12
        go_wp2_with fail
        refine HD.out.mono ?_
        rintro e w4 ⟨⟨A, kk, cp, rfl, -, -⟩, S', hs', E4, -⟩
        have E4 := Lib.hid E4
        have N4 : Hid (S'.bs.length = 3072) := by show _ = _; rw [hs', HNl.out]; exact HS.out
        clear hs' HD HNl
        go_wp2_with fail
        go_roundw
        case rel => exact ⟨k + 1, S', _, by omega, by go_num, E4.out, N4.out⟩
        case measure => simp [intOf]; omega
    · obtain rfl : k = n := by omega
      go_wp2_with fail
      go_ret2
      exact ⟨s, q, g, S, L, rfl, HE.out, HS.out⟩
end Go.Proofs.YtaelfgdiboekpaaDoor.Ns
