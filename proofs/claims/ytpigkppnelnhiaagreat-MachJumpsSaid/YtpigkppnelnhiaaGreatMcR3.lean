/- Two pointers to the context are compared; what the law's own helpers answer. -/
import Derived.Test.YtpigkppnelnhiaaGreatMcR2
namespace Go.Proofs.YtpigkppnelnhiaaGreat
open Go.ChangeShapes Go.WideShapes Go.ChangeAt Go.RowKit
open Cod Bits
set_option linter.unusedVariables false
set_option linter.unusedSimpArgs false
set_option maxRecDepth 100000
def brP (op a b : Int) : List Ins := [⟨15, false, true, 0, 4, 1, 0, 0⟩, ⟨1, false, false, 0, 4, 0, 0, a⟩, ⟨1, false, false, 0, 1, 0, 0, b⟩, ⟨15, false, false, 0, 0, 0, 0, 1⟩, ⟨op, false, true, 0, 4, 1, 1, 0⟩, ⟨15, false, false, 0, 0, 0, 0, 0⟩, iE]
def brR (op a b : Int) : Int := if holdsM (sgnOp op) false a b = true then 1 else 0
theorem ops10 {op : Int} (h : 27 ≤ op ∧ op ≤ 36) : op = 27 ∨ op = 28 ∨ op = 29 ∨ op = 30 ∨ op = 31 ∨ op = 32 ∨ op = 33 ∨ op = 34 ∨ op = 35 ∨ op = 36 := by omega
theorem br_goal (op a b : Int) (h : 27 ≤ op ∧ op ≤ 36) : (goalsL (brP op a b))[4]? = some 6 := by
  rcases ops10 h with rfl | rfl | rfl | rfl | rfl | rfl | rfl | rfl | rfl | rfl <;> kernel_rfl
theorem do_br (P : Pg) (i : Ins) (S : St) (h : 27 ≤ i.op ∧ i.op ≤ 37) : doL P i S = brL P S i := by
  unfold doL
  rw [if_neg (by omega), if_neg (by omega), if_neg (by omega), if_neg (by omega), if_neg (by omega), if_neg (by omega), if_neg (by omega), if_neg (by omega), if_pos h]
section
variable (G : List Int) (op a b : Int)
def bs2 : St := (mv1.go 2).put 4 ⟨3, 0, 0, a⟩
def bs3 : St := ((bs2 a).go 3).put 1 ⟨3, 0, 0, b⟩
def bs4 : St := ((bs3 a b).go 4).put 0 (V.num 1)
def bs6 : St := (((bs4 a b).go 5).go 6).put 0 (V.num 0)
theorem near_of {x : Int} (h : farB x = false) : -1048576 ≤ x ∧ x ≤ 1048576 := by
  have : ¬ (x < -1048576 ∨ 1048576 < x) := fun e => by rw [farB_yes.2 e] at h; cases h
  omega
theorem bs_1 : nextL ⟨brP op a b, G⟩ (doL ⟨brP op a b, G⟩) (startSt []) = (0, mv1) := rfl
theorem bs_2 (ha : farB a = false) : nextL ⟨brP op a b, G⟩ (doL ⟨brP op a b, G⟩) mv1 = (0, bs2 a) := by
  have hn := near_of ha
  show movedL ⟨brP op a b, G⟩ mv1 4 ⟨3, 0, 0, 0⟩ (distL a) = _
  unfold movedL
  rw [distL_near (by omega)]
  have hw : wrap64 (0 + a) = a := by unfold wrap64; omega
  simp only [hw]
  rw [if_neg (by omega)]
  rfl
theorem bs_3 (hb : farB b = false) : nextL ⟨brP op a b, G⟩ (doL ⟨brP op a b, G⟩) (bs2 a) = (0, bs3 a b) := by
  have hn := near_of hb
  show movedL ⟨brP op a b, G⟩ (bs2 a) 1 ⟨3, 0, 0, 0⟩ (distL b) = _
  unfold movedL
  rw [distL_near (by omega)]
  have hw : wrap64 (0 + b) = b := by unfold wrap64; omega
  simp only [hw]
  rw [if_neg (by omega)]
  rfl
theorem bs_4 : nextL ⟨brP op a b, G⟩ (doL ⟨brP op a b, G⟩) (bs3 a b) = (0, bs4 a b) := rfl
theorem bs_5 (h : 27 ≤ op ∧ op ≤ 36) (hG : G[4]? = some 6) : nextL ⟨brP op a b, G⟩ (doL ⟨brP op a b, G⟩) (bs4 a b) = if holdsM (sgnOp op) false a b = true then (0, (bs4 a b).go 6) else (0, (bs4 a b).go 5) := by
  show doL ⟨brP op a b, G⟩ ⟨op, false, true, 0, 4, 1, 1, 0⟩ (bs4 a b) = _
  rw [do_br _ _ _ (by show 27 ≤ op ∧ op ≤ 37; omega)]
  unfold brL
  have e : decL ⟨op, false, true, 0, 4, 1, 1, 0⟩ ((bs4 a b).regs 4) ((bs4 a b).regs 1) = (holdsM (sgnOp op) false a b, 0) := by
    show decL ⟨op, false, true, 0, 4, 1, 1, 0⟩ ⟨3, 0, 0, a⟩ ⟨3, 0, 0, b⟩ = _
    unfold decL
    rw [if_neg (by show ¬ (false && false) = true; decide), if_neg (by show ¬ ((false || op == 37) = true); rw [Bool.false_or, beq_iff_eq]; omega), if_pos (by rfl)]
  show (if (decL ⟨op, false, true, 0, 4, 1, 1, 0⟩ ((bs4 a b).regs 4) ((bs4 a b).regs 1)).2 = 0 then (if (decL ⟨op, false, true, 0, 4, 1, 1, 0⟩ ((bs4 a b).regs 4) ((bs4 a b).regs 1)).1 = true then goToL _ _ _ else goToL _ _ _) else _) = _
  rw [e]
  have hg : goalL ⟨brP op a b, G⟩ (bs4 a b) = 6 := by
    show G[4]?.getD 0 = 6
    rw [hG]
    rfl
  rw [hg]
  cases holdsM (sgnOp op) false a b <;> rfl
theorem bs_6 : nextL ⟨brP op a b, G⟩ (doL ⟨brP op a b, G⟩) ((bs4 a b).go 5) = (0, bs6 a b) := rfl
theorem bs_7 : nextL ⟨brP op a b, G⟩ (doL ⟨brP op a b, G⟩) (bs6 a b) = (0, { bs6 a b with steps := wrap64 ((bs6 a b).steps + 1), done := true }) := rfl
theorem bs_8 : nextL ⟨brP op a b, G⟩ (doL ⟨brP op a b, G⟩) ((bs4 a b).go 6) = (0, { (bs4 a b).go 6 with steps := wrap64 (((bs4 a b).go 6).steps + 1), done := true }) := rfl
end
theorem br_run (op a b : Int) (h : 27 ≤ op ∧ op ≤ 36) (ha : farB a = false) (hb : farB b = false) : (runL ⟨brP op a b, goalsL (brP op a b)⟩ (doL ⟨brP op a b, goalsL (brP op a b)⟩) 1048576 (startSt [])).1 = 0 ∧ ((0 : Int) = 0 → ((runL ⟨brP op a b, goalsL (brP op a b)⟩ (doL ⟨brP op a b, goalsL (brP op a b)⟩) 1048576 (startSt [])).2.regs 0).x = brR op a b) := by
  have hG := br_goal op a b h
  generalize goalsL (brP op a b) = G at *
  rw [show (1048576 : Nat) = 1048569 + 1 + 1 + 1 + 1 + 1 + 1 + 1 from rfl, runL_next rfl (bs_1 G op a b), runL_next rfl (bs_2 G op a b ha), runL_next rfl (bs_3 G op a b hb), runL_next rfl (bs_4 G op a b)]
  unfold brR
  by_cases hh : holdsM (sgnOp op) false a b = true
  · rw [runL_next rfl ((bs_5 G op a b h hG).trans (if_pos hh)), runL_next rfl (bs_8 G op a b), runL_done rfl, if_pos hh]
    exact ⟨rfl, fun _ => rfl⟩
  · rw [runL_next rfl ((bs_5 G op a b h hG).trans (if_neg hh)), runL_next rfl (bs_6 G op a b), runL_next rfl (bs_7 G op a b), runL_done rfl, if_neg hh]
    exact ⟨rfl, fun _ => rfl⟩
theorem add_right (d x : Int) (hd : d = 4 ∨ d = 1) (hx : farB x = false) : Ins.wrong ⟨1, false, false, 0, d, 0, 0, x⟩ = 0 := by
  have hn := near_of hx
  have hfit : fitsL x 2147483647 = true := by unfold fitsL; simp only [Bool.and_eq_true, decide_eq_true_eq]; omega
  rcases hd with rfl | rfl
  · show (if immediateL 1 false false x = false then (24 : Int) else 0) = 0
    rw [show immediateL 1 false false x = fitsL x 2147483647 from rfl, hfit]
    rfl
  · show (if immediateL 1 false false x = false then (24 : Int) else 0) = 0
    rw [show immediateL 1 false false x = fitsL x 2147483647 from rfl, hfit]
    rfl
theorem runs_br (w : World) (ad : Addr) (c : Nat) (op a b : Int) (h : 27 ≤ op ∧ op ≤ 36) (ha : farB a = false) (hb : farB b = false) (hC : CodeAt w (some ad) (brP op a b)) :
    Calls Tryz.prog 14 #[.slice (some ad) 7 c, .slice none 0 0] w fun e w' => (∃ A1 n1 c1 A2 n2 c2, e = .returned (.tuple #[.agg #[.int .i64 (brR op a b), .slice A1 n1 c1, .slice none 0 0, .slice A2 n2 c2], .int .i64 0])) ∧ Below w.heap.size w w' := by
  have hall : ∀ i ∈ brP op a b, Plain i.op ∧ i.wrong = 0 := by
    intro j hj
    simp only [brP, List.mem_cons, List.not_mem_nil, or_false] at hj
    rcases hj with rfl | rfl | rfl | rfl | rfl | rfl | rfl
    · exact ⟨.inl (by show (1 : Int) ≤ 15 ∧ (15 : Int) ≤ 20; decide), by rfl⟩
    · exact ⟨.inl (by show (1 : Int) ≤ 1 ∧ (1 : Int) ≤ 20; decide), add_right 4 a (.inl rfl) ha⟩
    · exact ⟨.inl (by show (1 : Int) ≤ 1 ∧ (1 : Int) ≤ 20; decide), add_right 1 b (.inr rfl) hb⟩
    · exact ⟨.inl (by show (1 : Int) ≤ 15 ∧ (15 : Int) ≤ 20; decide), by rfl⟩
    · exact ⟨.inr (.inl (by show 26 ≤ op ∧ op ≤ 37; omega)), by rcases ops10 h with rfl | rfl | rfl | rfl | rfl | rfl | rfl | rfl | rfl | rfl <;> rfl⟩
    · exact ⟨.inl (by show (1 : Int) ≤ 15 ∧ (15 : Int) ≤ 20; decide), by rfl⟩
    · exact ⟨.inr (.inr rfl), by rfl⟩
  exact runsN w ad c 7 0 _ (brP op a b) rfl ⟨by decide, by decide⟩ hC (fun i hi => (hall i hi).1) (fun i hi => (hall i hi).2) (fun h => absurd rfl h) (br_run op a b h ha hb)
theorem big_iff (a b : Int) (ha : farB a = false) (hb : -4194304 ≤ b ∧ b ≤ 4194304) : farB (a - distL b) = farB (a - b) := by
  have hn := near_of ha
  have e : farB (a - distL b) = true ↔ farB (a - b) = true := by
    rw [farB_yes, farB_yes]
    unfold distL
    omega
  cases h1 : farB (a - distL b) <;> cases h2 : farB (a - b) <;> simp_all
theorem big_out (a b : Int) (ha : farB a = false) (hb : b < -4194304 ∨ 4194304 < b) : farB (a - distL b) = true := by
  have hn := near_of ha
  rw [farB_yes]
  unfold distL
  omega
end Go.Proofs.YtpigkppnelnhiaaGreat
