/-
  The way along the list: contracts that the claimed proofs use.
-/
import Derived.Test.YtaelfgdiboekpaaDoorNsAsk
namespace Go.Proofs.YtaelfgdiboekpaaDoor.Ns
set_option maxRecDepth 100000
open Go.RowKit
open Ce (u ldW Mem)
open Bi (Blk Drawn hasB hasB_iff hasB_not up_alloc up_drew up_trans i64_in ret_i ret_b grown_refl grown_trans grown_below)

/-- What the walk answers: the list is right, and this one; or it isn't. -/
def Rgt (F : Nat → Option Nat) (h f : Nat) (E : Int) (xs : List Nat) : Prop := (E = 0 ∧ Rt F h f xs) ∨ (E = 10 ∧ ¬ ∃ L, Rt F h f L)
/-! ### The closures -/
def IC (B : Nat) (w0 : World) (_ : List Nat) (w : World) : Prop := Below B w0 w
def IL (B p : Nat) (w0 : World) (xs : List Nat) (w : World) : Prop := Below B w0 w ∧ ∃ v, Blk w p [v] 30 ∧ w.ownsRow B 3 1 v xs.length (ints (nats xs))
/-- A row in which these slots are set. -/
def setTo (n : Nat) (xs : List Nat) : List Bool := xs.foldl (fun l (k : Nat) => Bi.setL l (k : Int) true) (List.replicate n false)
theorem setTo_snoc (n : Nat) (xs : List Nat) (k : Nat) : setTo n (xs ++ [k]) = Bi.setL (setTo n xs) (k : Int) true := by simp [setTo]
theorem foldl_len : ∀ (xs : List Nat) (l : List Bool), (xs.foldl (fun l (k : Nat) => Bi.setL l (k : Int) true) l).length = l.length
  | [], _ => rfl
  | x :: xs, l => by rw [List.foldl_cons, foldl_len xs, Bi.setL_length]
theorem setTo_len (n : Nat) (xs : List Nat) : (setTo n xs).length = n := by unfold setTo; rw [foldl_len]; simp
def IR (B p q2 g2 n : Nat) (w0 : World) (xs : List Nat) (w : World) : Prop := Below B w0 w ∧ Blk w p [.pointer (some ⟨q2, 0, none⟩)] 103 ∧ ∃ ws, Bi.Bits w q2 g2 (setTo n xs) ws
theorem see_check (k : Nat) (w : World) : Calls Tryd.prog 82 #[.int .i64 (k : Int)] w fun e w' => e = .returned (.tuple #[]) ∧ w = w' := by
  go_enter Tryd.func82, Tryd.ntmps82
  go_wp2
  exact bodyPost_end (results_none rfl _ _ _) rfl ⟨rfl, rfl⟩
section
variable {w w0 : World} {B p q2 g2 n : Nat} {xs : List Nat}
theorem see_list (k : Nat) (hB : B = w0.heap.size) (hp : B ≤ p) (hl : xs.length ≤ 1048576) (hI : IL B p w0 xs w) : Calls Tryd.prog 79 #[.int .i64 (k : Int), .pointer (some ⟨p, 0, none⟩)] w fun e w' => e = .returned (.tuple #[]) ∧ IL B p w0 (xs ++ [k]) w' := by
  obtain ⟨hb, v, hk, ho⟩ := hI
  have c0 : w.cell? ⟨p, 0, none⟩ = some v := hk.cell
  have f0 := hk.frozen 0
  have HO := Lib.hid ho
  have HB := Lib.hid hb
  have HK := Lib.hid hk
  have hsz := hb.size
  have hlt := hk.lt
  obtain ⟨A0, n0, rfl⟩ := own_form ho
  generalize hN : xs.length = N at *
  have HN := Lib.hid hN
  have hne : ∀ j, (Value.slice A0 N n0).ownBlock = some j → B ≤ j ∧ j ≠ p := fun j e => by
    obtain ⟨cur, hc⟩ := own_cells HO.out e
    exact ⟨(HO.out.lt j e).1, kne (kind_of hc) (kind_blk HK.out) (by decide)⟩
  have HNe := Lib.hid hne
  have hBw : B ≤ w.heap.size := by omega
  clear hb hk ho hN hne
  go_enter Tryd.func79, Tryd.ntmps79
  go_wp2_with (at_builtin; refine app_law el3 rfl _ _ rfl rfl (own_below HO.out (up_alloc (Below.refl _ _) _)) rfl (show (w.alloc (.cells #[.int .i64 (k : Int)] 3)).heap[w.heap.size]? = some (.cells [Value.int .i64 (k : Int)].toArray 3 (0, 0)) from heap_alloc_new w _) rfl (by simp [Value.oneCell']) hl (by rw [World.size_alloc]; omega) ?_; intro g' cap' wa hoa hga hgw; have hga2 : Hid ((w.alloc (.cells #[.int .i64 (k : Int)] 3)).grownBy wa (Value.slice A0 N n0).ownBlock) := hga; have KA : Hid (Blk wa p [.slice A0 N n0] 30) := (Blk.lift HK.out _).of (hga2.out.block p (by rw [World.size_alloc]; omega) (fun e => (HNe.out p e.symm).2 rfl)); have ca : wa.cell? ⟨p, 0, none⟩ = some (.slice A0 N n0) := KA.out.cell; have fa := KA.out.frozen 0; clear hga hgw c0 f0)
  refine bodyPost_end (results_none rfl _ _ _) rfl ⟨rfl, ?_, _, KA.out.set (i := 0) _, ?_⟩
  · exact ((HB.out.alloc hBw _).grown hga2.out (by rw [World.size_alloc]; omega) (fun j e => (HNe.out j e).1)).setCell hp _
  · have h1 : (xs ++ [k]).length = N + 1 := by rw [List.length_append, HN.out]; rfl
    rw [h1, nats_snoc]
    refine own_of hoa.out fun j e => ?_
    obtain ⟨cur, hc⟩ := own_cells hoa.out e
    exact Below.heap_setCell _ _ _ _ (kne (kind_of hc) (kind_blk KA.out) (by decide))
theorem see_row (k : Nat) (hp : B ≤ p) (h2 : B ≤ g2) (hI : IR B p q2 g2 n w0 xs w) (hB : B ≤ w.heap.size) : Calls Tryd.prog 97 #[.int .i64 (k : Int), .pointer (some ⟨p, 0, none⟩)] w fun e w' => e = .returned (.tuple #[]) ∧ IR B p q2 g2 n w0 (xs ++ [k]) w' := by
  obtain ⟨hb, hk, ws, hm⟩ := hI
  have c0 : w.cell? ⟨p, 0, none⟩ = some (.pointer (some ⟨q2, 0, none⟩)) := hk.cell
  have HS := Lib.hid (Bi.set_any q2 g2 _ ws (k : Int) w hm)
  have HB := Lib.hid hb
  have HK := Lib.hid hk
  have HG : Hid (p ≠ g2) := kne (kind_blk hk) (kind_blk hm.2.1) (by decide)
  unfold Bi.Turned at HS
  rw [← setTo_snoc] at HS
  generalize Bi.setB (setTo n xs) (k : Int) true = z at *
  clear hb hk hm
  go_enter Tryd.func97, Tryd.ntmps97
  go_wp2_with fail
  refine HS.out.mono ?_
  rintro e w1 ⟨rfl, hm1, hg1⟩
  have HM1 := Lib.hid hm1
  have HG1 := Lib.hid hg1
  clear hm1 hg1 HS
  go_wp2_with fail
  refine bodyPost_end (results_none rfl _ _ _) rfl ⟨rfl, ?_, HK.out.far HG1.out HG.out, HM1.out⟩
  exact HB.out.grown HG1.out hB (fun _ e => by cases e; exact h2)
end
end Go.Proofs.YtaelfgdiboekpaaDoor.Ns
