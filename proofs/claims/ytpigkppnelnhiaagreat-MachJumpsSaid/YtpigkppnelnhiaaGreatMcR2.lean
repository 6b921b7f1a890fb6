/- Runs of longer programs: pointers to the context, moved and compared. -/
import Derived.Test.YtpigkppnelnhiaaGreatMcR
namespace Go.Proofs.YtpigkppnelnhiaaGreat
open Go.ChangeShapes Go.WideShapes Go.ChangeAt Go.RowKit
open Cod Bits
set_option linter.unusedVariables false
set_option linter.unusedSimpArgs false
set_option maxRecDepth 100000
/-- what a program of plain instructions, all of them right, is answered -/
theorem check_all : ∀ (L : List Ins) (n : Nat), n + L.length ≤ 4096 → (∀ i ∈ L, i.wrong = 0) → (checkL L n).2 = 0
  | [], n, _, _ => rfl
  | i :: t, n, h, hw => by
    simp only [List.length_cons] at h
    unfold checkL
    rw [if_neg (by omega), if_pos (hw i (List.mem_cons_self ..))]
    exact check_all t (n + 1) (by omega) fun j hj => hw j (List.mem_cons_of_mem _ hj)
theorem runsN (w : World) (ad : Addr) (c n : Nat) (E R : Int) (L : List Ins) (hn : L.length = n) (h1 : 1 ≤ n ∧ n ≤ 4096) (hC : CodeAt w (some ad) L) (hp : ∀ i ∈ L, Plain i.op) (hw : ∀ i ∈ L, i.wrong = 0) (h0 : E ≠ 0 → R = 0)
    (h : (runL ⟨L, goalsL L⟩ (doL ⟨L, goalsL L⟩) 1048576 (startSt [])).1 = E ∧ (E = 0 → ((runL ⟨L, goalsL L⟩ (doL ⟨L, goalsL L⟩) 1048576 (startSt [])).2.regs 0).x = R)) :
    Calls Tryz.prog 14 #[.slice (some ad) n c, .slice none 0 0] w fun e w' => (∃ A1 n1 c1 A2 n2 c2, e = .returned (.tuple #[.agg #[.int .i64 R, .slice A1 n1 c1, .slice none 0 0, .slice A2 n2 c2], .int .i64 E])) ∧ Below w.heap.size w w' := by
  subst hn
  refine (runs_v w ad c L none 0 0 [] h1.2 h1.1 hC hp hw (check_all L 0 (by omega) hw) rfl (by decide) (fun h => absurd h (by decide))).mono ?_
  rintro e w' ⟨v, rfl, g0, g1, hb⟩
  obtain ⟨k1, k2⟩ := h
  rw [k1] at g0 g1 ⊢
  by_cases hE : E = 0
  · obtain ⟨vc, vn, ev, ho, hi2⟩ := g0 hE
    obtain ⟨A1, c1, rfl⟩ := owns_slice ho
    obtain ⟨A2, c2, rfl⟩ := owns_slice hi2
    exact ⟨⟨_, _, _, _, _, _, by rw [ev, k2 hE]⟩, hb⟩
  · obtain rfl := h0 hE
    exact ⟨⟨none, 0, 0, none, 0, 0, by rw [g1 hE]; rfl⟩, hb⟩
/-- a pointer is moved by two numbers, and told from where it was -/
def moveP (a b : Int) : List Ins := [⟨15, false, true, 0, 4, 1, 0, 0⟩, iW 3 a, ⟨1, false, true, 0, 4, 3, 0, 0⟩, iW 3 b, ⟨2, false, true, 0, 4, 3, 0, 0⟩, ⟨2, false, true, 0, 4, 1, 0, 0⟩, ⟨15, false, true, 0, 0, 4, 0, 0⟩, iE]
def farB (x : Int) : Bool := decide (x < -1048576) || decide (1048576 < x)
def moveE (a b : Int) : Int := if farB a = true then 85 else if farB (a - distL b) = true then 85 else 0
def moveR (a b : Int) : Int := if moveE a b = 0 then a - b else 0
theorem farB_yes {x : Int} : farB x = true ↔ (x < -1048576 ∨ 1048576 < x) := by unfold farB; simp
theorem distL_near {x : Int} (h : -2097153 ≤ x ∧ x ≤ 2097153) : distL x = x := by unfold distL; omega
theorem distL_lim (x : Int) : -2097153 ≤ distL x ∧ distL x ≤ 2097153 := by unfold distL; omega
section
variable (G : List Int) (a b : Int)
def mv1 : St := ((startSt []).go 1).put 4 ⟨3, 0, 0, 0⟩
def mv2 : St := (mv1.go 2).put 3 (V.num a)
def mv3 : St := ((mv2 a).go 3).put 4 ⟨3, 0, 0, a⟩
def mv4 : St := ((mv3 a).go 4).put 3 (V.num b)
def mv5 : St := ((mv4 a b).go 5).put 4 ⟨3, 0, 0, a - b⟩
def mv6 : St := ((mv5 a b).go 6).put 4 (V.num (a - b))
def mv7 : St := ((mv6 a b).go 7).put 0 (V.num (a - b))
theorem mv_1 : nextL ⟨moveP a b, G⟩ (doL ⟨moveP a b, G⟩) (startSt []) = (0, mv1) := rfl
theorem mv_2 : nextL ⟨moveP a b, G⟩ (doL ⟨moveP a b, G⟩) mv1 = (0, mv2 a) := rfl
theorem mv_3 : nextL ⟨moveP a b, G⟩ (doL ⟨moveP a b, G⟩) (mv2 a) = if farB a = true then (85, mv2 a) else (0, mv3 a) := by
  show movedL ⟨moveP a b, G⟩ (mv2 a) 4 ⟨3, 0, 0, 0⟩ (distL a) = _
  unfold movedL
  have hd := distL_lim a
  have hw : wrap64 (0 + distL a) = distL a := by unfold wrap64; omega
  simp only [hw]
  by_cases h : farB a = true
  · have h2 := farB_yes.1 h
    rw [if_pos (by unfold distL; omega), if_pos h]
  · have h2 : ¬ (a < -1048576 ∨ 1048576 < a) := fun e => h (farB_yes.2 e)
    rw [distL_near (by omega), if_neg h2, if_neg h]
    rfl
theorem mv_4 : nextL ⟨moveP a b, G⟩ (doL ⟨moveP a b, G⟩) (mv3 a) = (0, mv4 a b) := rfl
theorem mv_5 (ha : farB a = false) : nextL ⟨moveP a b, G⟩ (doL ⟨moveP a b, G⟩) (mv4 a b) = if farB (a - distL b) = true then (85, mv4 a b) else (0, mv5 a b) := by
  show movedL ⟨moveP a b, G⟩ (mv4 a b) 4 ⟨3, 0, 0, a⟩ (-(distL b)) = _
  unfold movedL
  have hd := distL_lim b
  have h1 : ¬ (a < -1048576 ∨ 1048576 < a) := fun e => by rw [farB_yes.2 e] at ha; cases ha
  have hw : wrap64 (a + -distL b) = a - distL b := by unfold wrap64; omega
  simp only [hw]
  by_cases h : farB (a - distL b) = true
  · rw [if_pos (farB_yes.1 h), if_pos h]
  · have h2 : ¬ (a - distL b < -1048576 ∨ 1048576 < a - distL b) := fun e => h (farB_yes.2 e)
    have hb : distL b = b := by unfold distL at *; omega
    rw [if_neg h2, if_neg h, hb]
    rfl
theorem mv_6 (ha : farB a = false) (hb : farB (a - distL b) = false) : nextL ⟨moveP a b, G⟩ (doL ⟨moveP a b, G⟩) (mv5 a b) = (0, mv6 a b) := by
  have h1 : ¬ (a < -1048576 ∨ 1048576 < a) := fun e => by rw [farB_yes.2 e] at ha; cases ha
  have h2 : ¬ (a - distL b < -1048576 ∨ 1048576 < a - distL b) := fun e => by rw [farB_yes.2 e] at hb; cases hb
  have hb2 : distL b = b := by unfold distL at *; omega
  rw [hb2] at h2
  show setL ⟨moveP a b, G⟩ (mv5 a b) 4 (V.num (wrap64 (a - b - 0))) = _
  rw [show wrap64 (a - b - 0) = a - b by unfold wrap64; omega]
  rfl
theorem mv_7 : nextL ⟨moveP a b, G⟩ (doL ⟨moveP a b, G⟩) (mv6 a b) = (0, mv7 a b) := rfl
theorem mv_8 : nextL ⟨moveP a b, G⟩ (doL ⟨moveP a b, G⟩) (mv7 a b) = (0, { mv7 a b with steps := wrap64 ((mv7 a b).steps + 1), done := true }) := rfl
end
theorem move_run (a b : Int) : (runL ⟨moveP a b, goalsL (moveP a b)⟩ (doL ⟨moveP a b, goalsL (moveP a b)⟩) 1048576 (startSt [])).1 = moveE a b ∧ (moveE a b = 0 → ((runL ⟨moveP a b, goalsL (moveP a b)⟩ (doL ⟨moveP a b, goalsL (moveP a b)⟩) 1048576 (startSt [])).2.regs 0).x = moveR a b) := by
  generalize goalsL (moveP a b) = G
  rw [show (1048576 : Nat) = 1048568 + 1 + 1 + 1 + 1 + 1 + 1 + 1 + 1 from rfl, runL_next rfl (mv_1 G a b), runL_next rfl (mv_2 G a b)]
  unfold moveR
  cases ha : farB a with
  | true =>
    have e : moveE a b = 85 := by unfold moveE; rw [if_pos ha]
    rw [runL_trap rfl ((mv_3 G a b).trans (if_pos ha)) (by decide), e]
    exact ⟨rfl, fun h => absurd h (by decide)⟩
  | false =>
    have ha2 : ¬ farB a = true := by rw [ha]; decide
    rw [runL_next rfl ((mv_3 G a b).trans (if_neg ha2)), runL_next rfl (mv_4 G a b)]
    cases hb : farB (a - distL b) with
    | true =>
      have e : moveE a b = 85 := by unfold moveE; rw [if_neg ha2, if_pos hb]
      rw [runL_trap rfl ((mv_5 G a b ha).trans (if_pos hb)) (by decide), e]
      exact ⟨rfl, fun h => absurd h (by decide)⟩
    | false =>
      have hb2 : ¬ farB (a - distL b) = true := by rw [hb]; decide
      have e : moveE a b = 0 := by unfold moveE; rw [if_neg ha2, if_neg hb2]
      rw [runL_next rfl ((mv_5 G a b ha).trans (if_neg hb2)), runL_next rfl (mv_6 G a b ha hb), runL_next rfl (mv_7 G a b), runL_next rfl (mv_8 G a b), runL_done rfl, e]
      exact ⟨rfl, fun _ => rfl⟩
theorem runs_move (w : World) (ad : Addr) (c : Nat) (a b : Int) (hC : CodeAt w (some ad) (moveP a b)) :
    Calls Tryz.prog 14 #[.slice (some ad) 8 c, .slice none 0 0] w fun e w' => (∃ A1 n1 c1 A2 n2 c2, e = .returned (.tuple #[.agg #[.int .i64 (moveR a b), .slice A1 n1 c1, .slice none 0 0, .slice A2 n2 c2], .int .i64 (moveE a b)])) ∧ Below w.heap.size w w' := by
  have hall : ∀ i ∈ moveP a b, Plain i.op ∧ i.wrong = 0 := by
    intro j hj
    simp only [moveP, List.mem_cons, List.not_mem_nil, or_false] at hj
    rcases hj with rfl | rfl | rfl | rfl | rfl | rfl | rfl | rfl
    · exact ⟨.inl (by show (1 : Int) ≤ 15 ∧ (15 : Int) ≤ 20; decide), by rfl⟩
    · exact ⟨.inl (by show (1 : Int) ≤ 20 ∧ (20 : Int) ≤ 20; decide), by unfold Ins.wrong iW; rfl⟩
    · exact ⟨.inl (by show (1 : Int) ≤ 1 ∧ (1 : Int) ≤ 20; decide), by rfl⟩
    · exact ⟨.inl (by show (1 : Int) ≤ 20 ∧ (20 : Int) ≤ 20; decide), by unfold Ins.wrong iW; rfl⟩
    · exact ⟨.inl (by show (1 : Int) ≤ 2 ∧ (2 : Int) ≤ 20; decide), by rfl⟩
    · exact ⟨.inl (by show (1 : Int) ≤ 2 ∧ (2 : Int) ≤ 20; decide), by rfl⟩
    · exact ⟨.inl (by show (1 : Int) ≤ 15 ∧ (15 : Int) ≤ 20; decide), by rfl⟩
    · exact ⟨.inr (.inr rfl), by rfl⟩
  exact runsN w ad c 8 _ _ (moveP a b) rfl ⟨by decide, by decide⟩ hC (fun i hi => (hall i hi).1) (fun i hi => (hall i hi).2) (fun h => by unfold moveR; rw [if_neg h]) (move_run a b)
end Go.Proofs.YtpigkppnelnhiaaGreat
