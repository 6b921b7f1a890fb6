/- Runs of programs of four instructions: the constants' maker, the lists, what is right. -/
import Derived.Test.YtpigkppnelnhiaaGreatMcL
import Derived.Test.YtpigkppnelnhiaaGreatMcP
import Derived.Test.YtpigkppnelnhiaaGreatMcI2
namespace Go.Proofs.YtpigkppnelnhiaaGreat
open Go.ChangeShapes Go.WideShapes Go.ChangeAt Go.RowKit
open Cod Bits
set_option linter.unusedVariables false
set_option linter.unusedSimpArgs false
set_option maxRecDepth 100000
theorem mc_flat : ∀ (L : List Ins) (j : Nat) (i : Ins), L[j]? = some i → ∀ k, k < 8 → (L.flatMap Ins.cells)[j * 8 + k]? = i.cells[k]?
  | [], j, i, h, _, _ => by simp at h
  | a :: t, 0, i, h, k, hk => by
    have e : a = i := by simpa using h
    subst e
    rw [List.flatMap_cons, List.getElem?_append_left (by simp [Ins.cells]; omega)]
    simp
  | a :: t, j + 1, i, h, k, hk => by
    have h2 : t[j]? = some i := by simpa using h
    have hl : a.cells.length = 8 := rfl
    rw [List.flatMap_cons, List.getElem?_append_right (by omega), hl, show (j + 1) * 8 + k - 8 = j * 8 + k by omega]
    exact mc_flat t j i h2 k hk
theorem mcCodeAt_cells {w : World} {g : Nat} {L : List Ins} (hlt : g < w.heap.size) (h : ∀ m v, (L.flatMap Ins.cells)[m]? = some v → w.cell? ⟨g, m, none⟩ = some v) : CodeAt w (some ⟨g, 0, none⟩) L := fun _ =>
  ⟨g, 0, rfl, hlt, fun j i hi => by
    have k := mc_flat L j i hi
    rw [Nat.zero_add]
    exact ⟨h _ _ (k 0 (by decide)), h _ _ (k 1 (by decide)), h _ _ (k 2 (by decide)), h _ _ (k 3 (by decide)), h _ _ (k 4 (by decide)), h _ _ (k 5 (by decide)), h _ _ (k 6 (by decide)), h _ _ (k 7 (by decide))⟩⟩
theorem blk_code {w : World} {b : Nat} {L : List Ins} {cs : Array Value} (h : Blk w b 57 cs) (he : cs = (L.flatMap Ins.cells).toArray) : CodeAt w (some ⟨b, 0, none⟩) L := mcCodeAt_cells h.lt fun m v hm => by
  subst he
  rw [h.cell m]
  simpa using hm
theorem wide_v (w : World) (r v : Int) :
    Calls Tryz.prog 15 #[.int .i64 r, .int .i64 v] w fun e w' => e = .returned (iW r v).val ∧ Below w.heap.size w w' := by
  have hO0 := Blk.new w 57 #[.int .i64 0, .bool false, .bool false, .int .i64 0, .int .i64 0, .int .i64 0, .int .i64 0, .int .i64 0]
  have hB0 := box1 w (.cells #[.int .i64 0, .bool false, .bool false, .int .i64 0, .int .i64 0, .int .i64 0, .int .i64 0, .int .i64 0] 57)
  go_enter Tryz.func15, Tryz.ntmps15
  go_upto_region 1 with (fail)
  generalize (w.alloc (.cells #[.int .i64 0, .bool false, .bool false, .int .i64 0, .int .i64 0, .int .i64 0, .int .i64 0, .int .i64 0] 57)) = w0 at *
  have c0 := hO0.cell 0
  have c1 := hO0.cell 1
  have c2 := hO0.cell 2
  have c3 := hO0.cell 3
  have c4 := hO0.cell 4
  have c5 := hO0.cell 5
  have c6 := hO0.cell 6
  have c7 := hO0.cell 7
  have f0 := hO0.frozen 0
  have f1 := hO0.frozen 1
  have f2 := hO0.frozen 2
  have f3 := hO0.frozen 3
  have f4 := hO0.frozen 4
  have f5 := hO0.frozen 5
  have f6 := hO0.frozen 6
  have f7 := hO0.frozen 7
  have HO := Lib.hid (((((((((hO0.set_ 0 (.int .i64 20)).set_ 1 (.bool false)).set_ 2 (.bool false)).set_ 3 (.int .i64 0)).set_ 4 (.int .i64 r)).set_ 5 (.int .i64 0)).set_ 6 (.int .i64 0)).set_ 7 (.int .i64 v)))
  have HT := Lib.hid ((((((((Touch.set_ (g := w.heap.size) w0 0 (.int .i64 20)).trans (Touch.set_ _ 1 (.bool false))).trans (Touch.set_ _ 2 (.bool false))).trans (Touch.set_ _ 3 (.int .i64 0))).trans (Touch.set_ _ 4 (.int .i64 r))).trans (Touch.set_ _ 5 (.int .i64 0))).trans (Touch.set_ _ 6 (.int .i64 0))).trans (Touch.set_ _ 7 (.int .i64 v)))
  have HB0 := Lib.hid hB0
  clear hO0 hB0
  go_wp2_with fail
  exact bodyPost_ret (v := .agg #[.int .i64 20, .bool false, .bool false, .int .i64 0, .int .i64 r, .int .i64 0, .int .i64 0, .int .i64 v]) (results_cell_row Tryz.results15 _ _ w.heap.size 57 #[.int .i64 20, .bool false, .bool false, .int .i64 0, .int .i64 r, .int .i64 0, .int .i64 0, .int .i64 v] (0, 0) _ rfl HO.out Tryz.underlying57 (by kernel_rfl) (by kernel_rfl)) rfl ⟨rfl, HB0.out.trans (HT.out.below (Nat.le_refl _) HB0.out.size)⟩
theorem wide_x (w : World) (r v : Int) :
    Calls Tryz.prog 15 #[.int .i64 r, .int .i64 v] w fun e w' => e = .returned (.agg #[.int .i64 20, .bool false, .bool false, .int .i64 0, .int .i64 r, .int .i64 0, .int .i64 0, .int .i64 v]) ∧ Below w.heap.size w w' := wide_v w r v
theorem four_check (a y : Int) (i : Ins) (hr : i.wrong = 0) : (checkL (prog4 a y i) 0).2 = 0 := by
  have e1 : (iW 0 a).wrong = 0 := by unfold Ins.wrong iW; rfl
  have e2 : (iW 3 y).wrong = 0 := by unfold Ins.wrong iW; rfl
  have e3 : iE.wrong = 0 := by rfl
  unfold prog4 checkL checkL checkL checkL checkL
  rw [if_neg (by decide), if_pos e1, if_neg (by decide), if_pos e2, if_neg (by decide), if_pos hr, if_neg (by decide), if_pos e3]
/-- a program of four: two numbers, an instruction, the exit -/
theorem runs4 (w : World) (ad : Addr) (c : Nat) (a y E R : Int) (i : Ins) (hC : CodeAt w (some ad) (prog4 a y i)) (hi : Plain i.op) (hr : i.wrong = 0) (h0 : E ≠ 0 → R = 0)
    (h : ∀ G, doL ⟨prog4 a y i, G⟩ i (st2 [] a y) = if E = 0 then setL ⟨prog4 a y i, G⟩ (st2 [] a y) 0 (V.num R) else (E, st2 [] a y)) :
    Calls Tryz.prog 14 #[.slice (some ad) 4 c, .slice none 0 0] w fun e w' => (∃ A1 n1 c1 A2 n2 c2, e = .returned (.tuple #[.agg #[.int .i64 R, .slice A1 n1 c1, .slice none 0 0, .slice A2 n2 c2], .int .i64 E])) ∧ Below w.heap.size w w' := by
  have hp : ∀ j ∈ prog4 a y i, Plain j.op := by
    intro j hj
    simp only [prog4, List.mem_cons, List.not_mem_nil, or_false] at hj
    rcases hj with rfl | rfl | rfl | rfl
    · exact .inl (by show (1 : Int) ≤ 20 ∧ (20 : Int) ≤ 20; decide)
    · exact .inl (by show (1 : Int) ≤ 20 ∧ (20 : Int) ≤ 20; decide)
    · exact hi
    · exact .inr (.inr rfl)
  have hw : ∀ j ∈ prog4 a y i, j.wrong = 0 := by
    intro j hj
    simp only [prog4, List.mem_cons, List.not_mem_nil, or_false] at hj
    rcases hj with rfl | rfl | rfl | rfl
    · unfold Ins.wrong iW; rfl
    · unfold Ins.wrong iW; rfl
    · exact hr
    · rfl
  refine (runs_v w ad c (prog4 a y i) none 0 0 [] (by show 4 ≤ 4096; decide) (by show 1 ≤ 4; decide) hC hp hw (four_check a y i hr) rfl (by decide) (fun h => absurd h (by decide))).mono ?_
  rintro e w' ⟨v, rfl, g0, g1, hb⟩
  by_cases hE : E = 0
  · subst hE
    obtain ⟨k1, k2⟩ := run4_yes [] a y R i (fun G => by rw [h G, if_pos rfl])
    rw [k1] at g0 ⊢
    obtain ⟨vc, vn, ev, ho, hi2⟩ := g0 rfl
    obtain ⟨A1, c1, rfl⟩ := owns_slice ho
    obtain ⟨A2, c2, rfl⟩ := owns_slice hi2
    exact ⟨⟨_, _, _, _, _, _, by rw [ev, k2]⟩, hb⟩
  · have k1 := run4_no [] a y E i (fun G => by rw [h G, if_neg hE]) hE
    rw [k1] at g1 ⊢
    obtain rfl := h0 hE
    exact ⟨⟨none, 0, 0, none, 0, 0, by rw [g1 hE]; rfl⟩, hb⟩
/-- a program of three: a number, an instruction, the exit -/
def prog3 (a : Int) (i : Ins) : List Ins := [iW 0 a, i, iE]
def st1 (a : Int) : St := ((startSt []).go 1).put 0 (V.num a)
theorem run3_yes (a R : Int) (i : Ins) (h : ∀ G, doL ⟨prog3 a i, G⟩ i (st1 a) = setL ⟨prog3 a i, G⟩ (st1 a) 0 (V.num R)) :
    (runL ⟨prog3 a i, goalsL (prog3 a i)⟩ (doL ⟨prog3 a i, goalsL (prog3 a i)⟩) 1048576 (startSt [])).1 = 0 ∧ ((runL ⟨prog3 a i, goalsL (prog3 a i)⟩ (doL ⟨prog3 a i, goalsL (prog3 a i)⟩) 1048576 (startSt [])).2.regs 0).x = R := by
  generalize goalsL (prog3 a i) = G
  have e1 : nextL ⟨prog3 a i, G⟩ (doL ⟨prog3 a i, G⟩) (st1 a) = (0, ((st1 a).go 2).put 0 (V.num R)) := by
    show doL ⟨prog3 a i, G⟩ i (st1 a) = _
    rw [h G]
    rfl
  rw [show (1048576 : Nat) = 1048575 + 1 from rfl, runL_next (S' := st1 a) rfl rfl, show (1048575 : Nat) = 1048574 + 1 from rfl, runL_next rfl e1, show (1048574 : Nat) = 1048573 + 1 from rfl]
  have e2 : nextL ⟨prog3 a i, G⟩ (doL ⟨prog3 a i, G⟩) (((st1 a).go 2).put 0 (V.num R)) = (0, { ((st1 a).go 2).put 0 (V.num R) with steps := wrap64 ((((st1 a).go 2).put 0 (V.num R)).steps + 1), done := true }) := rfl
  rw [runL_next rfl e2, runL_done rfl]
  exact ⟨rfl, rfl⟩
theorem runs3 (w : World) (ad : Addr) (c : Nat) (a R : Int) (i : Ins) (hC : CodeAt w (some ad) (prog3 a i)) (hi : Plain i.op) (hr : i.wrong = 0)
    (h : ∀ G, doL ⟨prog3 a i, G⟩ i (st1 a) = setL ⟨prog3 a i, G⟩ (st1 a) 0 (V.num R)) :
    Calls Tryz.prog 14 #[.slice (some ad) 3 c, .slice none 0 0] w fun e w' => (∃ A1 n1 c1 A2 n2 c2, e = .returned (.tuple #[.agg #[.int .i64 R, .slice A1 n1 c1, .slice none 0 0, .slice A2 n2 c2], .int .i64 0])) ∧ Below w.heap.size w w' := by
  have hp : ∀ j ∈ prog3 a i, Plain j.op := by
    intro j hj
    simp only [prog3, List.mem_cons, List.not_mem_nil, or_false] at hj
    rcases hj with rfl | rfl | rfl
    · exact .inl (by show (1 : Int) ≤ 20 ∧ (20 : Int) ≤ 20; decide)
    · exact hi
    · exact .inr (.inr rfl)
  have e1 : (iW 0 a).wrong = 0 := by unfold Ins.wrong iW; rfl
  have e3 : iE.wrong = 0 := by rfl
  have hw : ∀ j ∈ prog3 a i, j.wrong = 0 := by
    intro j hj
    simp only [prog3, List.mem_cons, List.not_mem_nil, or_false] at hj
    rcases hj with rfl | rfl | rfl
    · exact e1
    · exact hr
    · exact e3
  have hk : (checkL (prog3 a i) 0).2 = 0 := by
    unfold prog3 checkL checkL checkL checkL
    rw [if_neg (by decide), if_pos e1, if_neg (by decide), if_pos hr, if_neg (by decide), if_pos e3]
  refine (runs_v w ad c (prog3 a i) none 0 0 [] (by show 3 ≤ 4096; decide) (by show 1 ≤ 3; decide) hC hp hw hk rfl (by decide) (fun h => absurd h (by decide))).mono ?_
  rintro e w' ⟨v, rfl, g0, g1, hb⟩
  obtain ⟨k1, k2⟩ := run3_yes a R i h
  rw [k1] at g0 ⊢
  obtain ⟨vc, vn, ev, ho, hi2⟩ := g0 rfl
  obtain ⟨A1, c1, rfl⟩ := owns_slice ho
  obtain ⟨A2, c2, rfl⟩ := owns_slice hi2
  exact ⟨⟨_, _, _, _, _, _, by rw [ev, k2]⟩, hb⟩
theorem runs_23 (w : World) (ad : Addr) (c : Nat) (hC : CodeAt w (some ad) (prog3 2 ⟨1, false, false, 0, 0, 0, 0, 3⟩)) :
    Calls Tryz.prog 14 #[.slice (some ad) 3 c, .slice none 0 0] w fun e w' => (∃ A1 n1 c1 A2 n2 c2, e = .returned (.tuple #[.agg #[.int .i64 5, .slice A1 n1 c1, .slice none 0 0, .slice A2 n2 c2], .int .i64 0])) ∧ Below w.heap.size w w' := by
  refine runs3 w ad c 2 5 _ hC (.inl (by show (1 : Int) ≤ 1 ∧ (1 : Int) ≤ 20; decide)) (by rfl) (fun G => ?_)
  refine (do_alu _ _ 1 false false 0 3 2 3 3 (by decide) rfl rfl (.inr rfl) (by decide)).trans ?_
  rw [show aluE 1 false 3 = 0 by decide, if_pos rfl, show aluR 1 false 2 3 = 5 by decide +kernel]
/-- an instruction of arithmetic, as the law makes it -/
def AI (op : Int) (nar : Bool) (b y : Int) (i : Ins) : Prop :=
  (i = ⟨op, nar, true, 0, 0, 3, 0, 0⟩ ∧ op ≠ 14 ∧ y = b) ∨ (i = ⟨op, nar, false, 0, 0, 0, 0, 0⟩ ∧ op = 14 ∧ y = b) ∨
  (i = ⟨op, nar, false, 0, 0, 0, 0, y⟩ ∧ op ≠ 14 ∧ (-2147483648 ≤ y ∧ y ≤ 2147483647) ∧ (4 ≤ op → op ≤ 7 → y ≠ 0) ∧ (11 ≤ op → op ≤ 13 → 0 ≤ y ∧ y ≤ 31))
theorem ai_op {op : Int} {nar : Bool} {b y : Int} {i : Ins} (h : AI op nar b y i) : i.op = op := by
  rcases h with ⟨rfl, _⟩ | ⟨rfl, _⟩ | ⟨rfl, _⟩ <;> rfl
theorem ai_wrong {op : Int} {nar : Bool} {b y : Int} {i : Ins} (h : AI op nar b y i) (ho : 1 ≤ op ∧ op ≤ 15) : i.wrong = 0 := by
  have ho2 : op = 1 ∨ op = 2 ∨ op = 3 ∨ op = 4 ∨ op = 5 ∨ op = 6 ∨ op = 7 ∨ op = 8 ∨ op = 9 ∨ op = 10 ∨ op = 11 ∨ op = 12 ∨ op = 13 ∨ op = 14 ∨ op = 15 := by omega
  rcases h with ⟨rfl, hn, rfl⟩ | ⟨rfl, rfl, rfl⟩ | ⟨rfl, hn, hy, hd, hs⟩
  · rcases ho2 with rfl | rfl | rfl | rfl | rfl | rfl | rfl | rfl | rfl | rfl | rfl | rfl | rfl | rfl | rfl <;> first | exact absurd rfl hn | (cases nar <;> rfl)
  · cases nar <;> rfl
  · unfold Ins.wrong wrongL
    have e1 : operatesL op nar false 0 = true := by rcases ho2 with rfl | rfl | rfl | rfl | rfl | rfl | rfl | rfl | rfl | rfl | rfl | rfl | rfl | rfl | rfl <;> first | exact absurd rfl hn | (cases nar <;> rfl)
    have e2 : registersL op nar false 0 0 y = true := by
      have : registersL op nar false 0 0 y = ((namedL op nar false / 4 % 2 == 0 || registerL 0 (decide (1 ≤ op) && decide (op ≤ 23))) && (namedL op nar false / 8 % 2 == 0 || registerL 0 (op == 25 && fetchesL y))) := rfl
      rw [this, show (op == 25) = false by rw [beq_eq_false_iff_ne]; omega, Bool.false_and]
      rcases ho2 with rfl | rfl | rfl | rfl | rfl | rfl | rfl | rfl | rfl | rfl | rfl | rfl | rfl | rfl | rfl <;> first | exact absurd rfl hn | (cases nar <;> rfl)
    have e3 : fieldsL op nar false 0 0 0 = true := by rcases ho2 with rfl | rfl | rfl | rfl | rfl | rfl | rfl | rfl | rfl | rfl | rfl | rfl | rfl | rfl | rfl <;> first | exact absurd rfl hn | (cases nar <;> rfl)
    have e5 : namedL op nar false / 32 % 2 = 1 := by rcases ho2 with rfl | rfl | rfl | rfl | rfl | rfl | rfl | rfl | rfl | rfl | rfl | rfl | rfl | rfl | rfl <;> first | exact absurd rfl hn | (cases nar <;> rfl)
    have e4 : immediateL op nar false y = true := by
      have hfit : fitsL y 2147483647 = true := by unfold fitsL; simp only [Bool.and_eq_true, decide_eq_true_eq]; omega
      unfold immediateL
      rw [e5, if_neg (by decide), if_neg (by omega), if_neg (by omega), if_neg (by omega)]
      by_cases h4 : op = 4 ∨ op = 5 ∨ op = 6 ∨ op = 7
      · rw [if_pos h4, hfit, Bool.and_true, bne_iff_ne]
        exact hd (by omega) (by omega)
      rw [if_neg h4]
      by_cases h11 : op = 11 ∨ op = 12 ∨ op = 13
      · rw [if_pos h11]
        have := hs (by omega) (by omega)
        rw [show decide (0 ≤ y) = true by rw [decide_eq_true_eq]; omega, show decide (y ≤ 31) = true by rw [decide_eq_true_eq]; omega]
        rfl
      · rw [if_neg h11, hfit]
    show (if operatesL op nar false 0 = false then _ else _) = (0 : Int)
    rw [e1, e2, e3, e4]
    rfl
/-- what the law's program answers -/
theorem runs_ai (w : World) (ad : Addr) (c : Nat) (a b y op : Int) (nar : Bool) (i : Ins) (ho : 1 ≤ op ∧ op ≤ 15) (h : AI op nar b y i) (hy : -9223372036854775808 ≤ y ∧ y ≤ 9223372036854775807) (hC : CodeAt w (some ad) (prog4 a y i)) :
    Calls Tryz.prog 14 #[.slice (some ad) 4 c, .slice none 0 0] w fun e w' => (∃ A1 n1 c1 A2 n2 c2, e = .returned (.tuple #[.agg #[.int .i64 (aluR op nar a y), .slice A1 n1 c1, .slice none 0 0, .slice A2 n2 c2], .int .i64 (aluE op nar y)])) ∧ Below w.heap.size w w' := by
  refine runs4 w ad c a y (aluE op nar y) (aluR op nar a y) i hC (.inl (by rw [ai_op h]; omega)) (ai_wrong h ho) (fun hE => by unfold aluR; rw [if_neg hE]) (fun G => ?_)
  rcases h with ⟨rfl, hn, rfl⟩ | ⟨rfl, rfl, rfl⟩ | ⟨rfl, hn, _⟩
  · exact do_alu _ _ op nar true 3 0 a y y ho rfl rfl (.inr rfl) hy
  · exact do_alu _ _ 14 nar false 0 0 a y 0 ho rfl rfl (.inl rfl) hy
  · exact do_alu _ _ op nar false 0 y a y y ho rfl rfl (.inr rfl) hy
end Go.Proofs.YtpigkppnelnhiaaGreat
