/-
  What the statements' first call comes to, no program in sight: facts that the claimed proofs use.
-/
import Derived.Test.YtckcgaliphpgeaaGreatDoorHeDo
namespace Go.Proofs.YtckcgaliphpgeaaGreatDoor.He
set_option maxRecDepth 100000
open Ri (up up_at up_far)

def t1 : An := takeO (σ0 16) 15
def t2 : An := takeO t1.σ 15
def t3 : An := takeO t2.σ 15
def t4 : An := giveO t3.σ 0
def t5 : An := sealO t4.σ 4
def t6 : An := giveO t5.σ 512
def t7 : An := giveO t6.σ 1024
def t8 : An := leaveO t7.σ 0
def sb0 : Sb := ⟨15, [false, false]⟩
def t9 : St := joinO t8.σ 0 sb0
theorem va1 : t1.v = 0 ∧ t1.e = 0 ∧ t2.v = 512 ∧ t2.e = 0 ∧ t3.v = 1024 ∧ t3.e = 0 := by decide +kernel
theorem va2 : Ri.of t3.σ.R (ringI 15 1) = [0] ∧ findO t3.σ 512 = (0, 1, 0) ∧ hasO t3.σ 512 = true ∧ t4.e = 0 ∧ Ri.of t4.σ.R (ringI 15 0) = [0, 4] ∧ t5.e = 0 := by decide +kernel
theorem va3 : (t5.σ.M 0).map (·.c) = some 15 ∧ (t5.σ.M 0).map (fun s => Os.fr s.l) = some 1 ∧ t6.e = 0 ∧ t7.e = 0 ∧ t8.e = 0 := by decide +kernel
theorem va4 : (t7.σ.M 0).map (·.c) = some 15 ∧ (t7.σ.M 0).map (·.l) = some [false, false] ∧ t8.σ.O = [0] ∧ pagesO t9 = [0] ∧ takenO t9 = [] ∧ t9.R 60 = [] ∧ t9.R 62 = [0] := by decide +kernel
theorem va5 : (unsealO t9 0).e = 20 ∧ (unsealO (unsealO t9 0).σ 4).e = 16 ∧ (t8.σ.U 0).map (·.l) = some [false, false] ∧ (t8.σ.U 0).map (·.c) = some 15 := by decide +kernel
theorem va6 : t1.σ.S.length ≤ 9 ∧ t2.σ.S.length ≤ 9 ∧ t3.σ.S.length ≤ 9 ∧ t4.σ.S.length ≤ 9 ∧ t5.σ.S.length ≤ 9 ∧ t6.σ.S.length ≤ 9 ∧ t7.σ.S.length ≤ 9 ∧ t8.σ.S.length ≤ 9 ∧ t9.S.length ≤ 9 ∧ (unsealO t9 0).σ.S.length ≤ 9 := by decide +kernel
end Go.Proofs.YtckcgaliphpgeaaGreatDoor.He
