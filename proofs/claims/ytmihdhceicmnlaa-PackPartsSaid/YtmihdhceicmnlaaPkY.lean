/- Package pack: a container's bytes, part by part. -/
import Derived.Test.YtmihdhceicmnlaaPkW
namespace Go.Proofs.Ytmihdhceicmnlaa.Pak
open Go.ChangeShapes Go.WideShapes Go.ChangeAt Go.RowKit
set_option linter.unusedVariables false
set_option linter.unusedSimpArgs false
set_option maxRecDepth 100000
def Prt (k : Pk) : Nat → List Int
  | 0 => tabB k.tabs
  | 1 => k.data
  | _ => k.code
def Rst (k : Pk) : Nat → List Int
  | 0 => sec 2 (tabB k.tabs) ++ (sec 3 k.data ++ (sec 4 k.code ++ le (sumN (bodyW k)) 4))
  | 1 => sec 3 k.data ++ (sec 4 k.code ++ le (sumN (bodyW k)) 4)
  | 2 => sec 4 k.code ++ le (sumN (bodyW k)) 4
  | _ => le (sumN (bodyW k)) 4
theorem rst_none {k : Pk} {j : Nat} (hj : j < 3) (h : Prt k j = []) : Rst k j = Rst k (j + 1) := by
  rcases (show j = 0 ∨ j = 1 ∨ j = 2 by omega) with rfl | rfl | rfl
  · show sec 2 (Prt k 0) ++ Rst k 1 = Rst k 1
    rw [h]; rfl
  · show sec 3 (Prt k 1) ++ Rst k 2 = Rst k 2
    rw [h]; rfl
  · show sec 4 (Prt k 2) ++ Rst k 3 = Rst k 3
    rw [h]; rfl
theorem rst_some {k : Pk} {j : Nat} (hj : j < 3) (h : Prt k j ≠ []) : Rst k j = ((j : Int) + 2) :: (le (Prt k j).length 3 ++ (Prt k j ++ Rst k (j + 1))) := by
  rcases (show j = 0 ∨ j = 1 ∨ j = 2 by omega) with rfl | rfl | rfl
  · show sec 2 (Prt k 0) ++ Rst k 1 = _
    rw [sec_ne h, List.cons_append, List.append_assoc]; rfl
  · show sec 3 (Prt k 1) ++ Rst k 2 = _
    rw [sec_ne h, List.cons_append, List.append_assoc]; rfl
  · show sec 4 (Prt k 2) ++ Rst k 3 = _
    rw [sec_ne h, List.cons_append, List.append_assoc]; rfl
theorem enc_split (k : Pk) : encW k = [87, 80, 75, 49, 1, 4, 0, 0, k.lo % 256, k.lo / 256 % 256, k.hi % 256, k.hi / 256 % 256] ++ Rst k 0 := by
  unfold encW bodyW
  rw [sec_ne (lens_ne _ _)]
  show mark ++ ((1 :: (le 4 3 ++ (le k.lo 2 ++ le k.hi 2))) ++ (sec 2 (tabB k.tabs) ++ (sec 3 k.data ++ sec 4 k.code))) ++ le (sumN (mark ++ ((1 :: (le (le k.lo 2 ++ le k.hi 2).length 3 ++ (le k.lo 2 ++ le k.hi 2))) ++ (sec 2 (tabB k.tabs) ++ (sec 3 k.data ++ sec 4 k.code))))) 4 = _
  rw [show sumN (mark ++ ((1 :: (le (le k.lo 2 ++ le k.hi 2).length 3 ++ (le k.lo 2 ++ le k.hi 2))) ++ (sec 2 (tabB k.tabs) ++ (sec 3 k.data ++ sec 4 k.code)))) = sumN (bodyW k) by unfold bodyW; rw [sec_ne (lens_ne _ _)]]
  unfold Rst
  simp only [List.append_assoc]
  rfl
theorem enc_head (k : Pk) : (encW k).take 8 = [87, 80, 75, 49, 1, 4, 0, 0] := by rw [enc_split]; rfl
theorem enc_tail (k : Pk) : (encW k).drop 12 = Rst k 0 := by rw [enc_split]; rfl
theorem enc_lens (k : Pk) : (encW k)[8]? = some (k.lo % 256) ∧ (encW k)[9]? = some (k.lo / 256 % 256) ∧ (encW k)[10]? = some (k.hi % 256) ∧ (encW k)[11]? = some (k.hi / 256 % 256) := by
  rw [enc_split]; exact ⟨rfl, rfl, rfl, rfl⟩
theorem at_sec {L c r : List Int} {p : Nat} {kd m : Int} (h : L.drop p = kd :: (le m 3 ++ (c ++ r))) :
    L[p]? = some kd ∧ L[p + 1]? = some (m % 256) ∧ L[p + 2]? = some (m / 256 % 256) ∧ L[p + 3]? = some (m / 256 / 256 % 256) ∧ L.drop (p + 4) = c ++ r ∧ p + 4 + c.length + r.length = L.length := by
  have hg : ∀ i, L[p + i]? = (kd :: (le m 3 ++ (c ++ r)))[i]? := fun i => by rw [← h, List.getElem?_drop]
  refine ⟨hg 0, hg 1, hg 2, hg 3, ?_, ?_⟩
  · rw [← List.drop_drop, h]; rfl
  · have h2 := congrArg List.length h
    rw [List.length_drop, List.length_cons, List.length_append, le_len, List.length_append] at h2
    omega
theorem rst_len (k : Pk) : (Rst k 3).length = 4 := le_len 4 _
theorem head_lit : (strOfNums [87, 80, 75, 49, 1, 4, 0, 0]).toList = [87, 80, 75, 49, 1, 4, 0, 0] := by kernel_rfl
theorem head_bytes : Bytes [87, 80, 75, 49, 1, 4, 0, 0] := by intro x hx; simp at hx; unfold IsB; omega
theorem num3 (m : Nat) (h : m < 16777216) : ((m : Int) % 256) + 256 * ((m : Int) / 256 % 256) + 65536 * ((m : Int) / 256 / 256 % 256) = m := by omega
end Go.Proofs.Ytmihdhceicmnlaa.Pak
