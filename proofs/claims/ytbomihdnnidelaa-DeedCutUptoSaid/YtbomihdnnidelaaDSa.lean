/- Package deed: two lists of constraints held to be the same. -/
import Derived.Test.YtbomihdnnidelaaDeZ2
namespace Go.Proofs.Ytbomihdnnidelaa
open Go.ChangeShapes Go.WideShapes Go.ChangeAt Go.RowKit
open Dee
set_option linter.unusedVariables false
set_option linter.unusedSimpArgs false
set_option maxRecDepth 100000
section
variable {P : Program} {ops : Array Oper} {w : World}
theorem wpStill_load_cells {Q : Act → Prop} {a : Act} {o : Oper} {rest : List Oper} (hgd : Region.wanted o (yielded ops a.tmps) = true) (ty : TypeId) (x : Operand) (ho : o.op = .load ty x)
    (g off : Nat) (hx : a.eval x = .pointer (some ⟨g, off, none⟩)) (n : Nat) (f : Nat → Value) (d : TypeDesc) (hg : ∀ k, k < n → w.cell? ⟨g, off + k, none⟩ = some (f k))
    (hu : P.underlying ty = some d) (hd : (match d with | .struct _ | .array _ _ => true | _ => false) = true) (hi : (P.info? ty).map (·.size) = some n)
    (h : wpStill P ops w Q rest (a.put o.dst (.agg (arr n f)))) : wpStill P ops w Q (o :: rest) a :=
  wpStill_step fun K hK => by
    rw [if_pos hgd]
    unfold Oper.still execOp
    simp only [ho, hx, Instr.loadAt, Instr.sureAddr, Sem.run_bind, Sem.run_pure, Result.andThen_ok, run_loadVar_cells w g off ty n f d hg hu hd hi, Oper.stillUpon_value]
    exact hK _ h
theorem wpList_neq_arr {rest : List Oper} {o : Oper} {a : Act} {Q : Exit → Act → World → Prop} (hgd : Region.wanted o (yielded ops a.tmps) = true) (t rt : TypeId) (x y : Operand) (ho : o.op = .binOp .neq t x y rt) (xs ys : Array Value) (r : Bool) (hx : a.eval x = .agg xs) (hy : a.eval y = .agg ys)
    (hm : P.eqGuardType P.depth t = false) (hr : (Op.equalIn 10000 t (.agg xs) (.agg ys)).run P w = .ok r w) (h : wpList P ops Q rest (a.put o.dst (.bool (!r))) w) : wpList P ops Q (o :: rest) a w :=
  wpList_step fun K hK => by
    rw [if_pos hgd]
    unfold Oper.wp execOp
    simp only [ho, hx, hy, Sem.run_bind, run_eqGuard_agg w .neq t x y xs ys hm, Result.andThen_ok, run_neq_struct, hr, Sem.run_pure]
    exact hK _ _ h
end
theorem eq_con (x y : Con) (w : World) : (Op.equalIn 10000 63 (.agg (arr 3 (coF x))) (.agg (arr 3 (coF y)))).run Try.prog w = .ok (decide (x = y)) w := by
  have u3 := Try.underlying3
  have hS : Try.prog.underlying 63 = some (.struct (Try.prog.fieldsOf 63)) := by kernel_rfl
  obtain ⟨k, t, m⟩ := x
  obtain ⟨k', t', m'⟩ := y
  rw [show arr 3 (coF ⟨k, t, m⟩) = #[.int .i64 k, .int .i64 t, .int .i64 m] from rfl, show arr 3 (coF ⟨k', t', m'⟩) = #[.int .i64 k', .int .i64 t', .int .i64 m'] from rfl]
  by_cases h : (⟨k, t, m⟩ : Con) = ⟨k', t', m'⟩
  · rw [decide_eq_true h]
    injection h with h1 h2 h3
    subst h1 h2 h3
    rw [show (10000 : Nat) = 9999 + 1 from rfl, run_equalIn_struct w 9999 63 _ _ hS (by kernel_rfl)]
    simp only [Program.fieldsOf, Try.underlying63]
    go_simp
  · rw [decide_eq_false h]
    rw [show (10000 : Nat) = 9999 + 1 from rfl, run_equalIn_struct w 9999 63 _ _ hS (by kernel_rfl)]
    simp only [Program.fieldsOf, Try.underlying63]
    go_simp
    intro h0 h1 h2
    exact h (by rw [h0, h1, h2])
theorem eq_loop (x y : Lp) (w : World) : (Op.equalIn 10000 54 (.agg (arr 5 (loF x))) (.agg (arr 5 (loF y)))).run Try.prog w = .ok (decide (x = y)) w := by
  have u3 := Try.underlying3
  have hS : Try.prog.underlying 54 = some (.struct (Try.prog.fieldsOf 54)) := by kernel_rfl
  obtain ⟨k, t, m, p, q⟩ := x
  obtain ⟨k', t', m', p', q'⟩ := y
  rw [show arr 5 (loF ⟨k, t, m, p, q⟩) = #[.int .i64 k, .int .i64 t, .int .i64 m, .int .i64 p, .int .i64 q] from rfl, show arr 5 (loF ⟨k', t', m', p', q'⟩) = #[.int .i64 k', .int .i64 t', .int .i64 m', .int .i64 p', .int .i64 q'] from rfl]
  by_cases h : (⟨k, t, m, p, q⟩ : Lp) = ⟨k', t', m', p', q'⟩
  · rw [decide_eq_true h]
    injection h with h1 h2 h3 h4 h5
    subst h1 h2 h3 h4 h5
    rw [show (10000 : Nat) = 9999 + 1 from rfl, run_equalIn_struct w 9999 54 _ _ hS (by kernel_rfl)]
    simp only [Program.fieldsOf, Try.underlying54]
    go_simp
  · rw [decide_eq_false h]
    rw [show (10000 : Nat) = 9999 + 1 from rfl, run_equalIn_struct w 9999 54 _ _ hS (by kernel_rfl)]
    simp only [Program.fieldsOf, Try.underlying54]
    go_simp
    intro h0 h1 h2 h3 h4
    exact h (by rw [h0, h1, h2, h3, h4])
theorem sizeCon' : (Try.prog.info? 63).map (·.size) = some 3 := by kernel_rfl
theorem guardCon : Try.prog.eqGuardType Try.prog.depth 63 = false := by kernel_rfl
theorem guardLoop : Try.prog.eqGuardType Try.prog.depth 54 = false := by kernel_rfl
theorem take_diff {α : Type} {L M : List α} {j : Nat} {x y : α} (hx : L[j]? = some x) (hy : M[j]? = some y) (h : x ≠ y) : L ≠ M := fun e => by
  rw [e, hy] at hx
  injection hx with hx
  exact h hx.symm
theorem take_more {α : Type} {L M : List α} {j : Nat} {x y : α} (hx : L[j]? = some x) (hy : M[j]? = some y) (h : x = y) (ht : L.take j = M.take j) : L.take (j + 1) = M.take (j + 1) := by
  rw [List.take_add_one, List.take_add_one, hx, hy, ht, h]
set_option maxHeartbeats 4000000 in
theorem sameCons_any (w : World) (A : Option Addr) (n c : Nat) (A' : Option Addr) (n' c' : Nat) (L M : List Con) (hL : L.length = n) (hM : M.length = n') (hn : n ≤ 9223372036854775807) (h : RowsAt w A 3 coF L) (h' : RowsAt w A' 3 coF M) :
    Calls Try.prog 68 #[.slice A n c, .slice A' n' c'] w (RetB w (.bool (decide (L = M)))) := by
  have HL := Lib.hid hL
  have HM := Lib.hid hM
  have HR := Lib.hid h
  have HR' := Lib.hid h'
  clear hL hM h h'
  go_enter Try.func68, Try.ntmps68
  by_cases hnn : n = n'
  · subst hnn
    have tn : ((n : Int) == n) = true := by simp
    go_wp2_with fail
    clear tn
    go_loopw [4, 5, 11, 12, 13, 14, 15, 16, 17, 18, 19, 20, 21, 22, 23, 24, 25] (fun _ a5 _ _ _ _ _ _ _ _ _ _ _ _ _ _ _ wr => ∃ (j : Nat), j ≤ n ∧ a5 = .int .i64 j ∧ Below w.heap.size w wr ∧ L.take j = M.take j) (fun _ a5 _ _ _ _ _ _ _ _ _ _ _ _ _ _ _ _ => (n - intOf a5).toNat)
    case atStart => exact ⟨0, by omega, rfl, Below.refl _ _, by simp⟩
    case round =>
      obtain ⟨j, hj, rfl, hB, hTK⟩ := hrel
      have HB := Lib.hid hB
      have HTK := Lib.hid hTK
      clear hB hTK
      by_cases hlt : j < n
      · have hlt' : (j : Int) < n := by omega
        obtain ⟨b, off, rfl, hbB, hcells⟩ := HR.out (by have := HL.out; omega)
        obtain ⟨b', off', rfl, hbB', hcells'⟩ := HR'.out (by have := HM.out; omega)
        obtain ⟨y, hy⟩ : ∃ y, L[j]? = some y := ⟨L[j]'(by have := HL.out; omega), List.getElem?_eq_getElem _⟩
        obtain ⟨z, hz⟩ : ∃ y, M[j]? = some y := ⟨M[j]'(by have := HM.out; omega), List.getElem?_eq_getElem _⟩
        have HX := Lib.hid (fun W (hW : W = wr.drew) k (hk : k < 3) => show W.cell? ⟨b, off + j * 3 + k, none⟩ = some (coF y k) by rw [hW]; exact (HB.out.cell (p := ⟨b, off + j * 3 + k, none⟩) hbB).trans (hcells j y hy k hk))
        have HX' := Lib.hid (fun W (hW : W = wr.drew) k (hk : k < 3) => show W.cell? ⟨b', off' + j * 3 + k, none⟩ = some (coF z k) by rw [hW]; exact (HB.out.cell (p := ⟨b', off' + j * 3 + k, none⟩) hbB').trans (hcells' j z hz k hk))
        have HY := Lib.hid hy
        have HZ := Lib.hid hz
        have HEQ := Lib.hid (eq_con y z)
        clear hcells hcells' hy hz
        go_upto_region 6 with fail
        refine wp_region_tail 8 (by kernel_rfl) (by kernel_rfl) fun W hW => ?_
        simp only [List.take_succ_cons, List.take_zero, List.drop_succ_cons, List.drop_zero]
        have HBW := Lib.hid (show Below w.heap.size w W by rw [hW]; exact HB.out.drew)
        have hx := HX.out W hW
        have hx' := HX'.out W hW
        have heq := HEQ.out W
        clear hW HX HX' HEQ
        have HX := Lib.hid hx
        have HX' := Lib.hid hx'
        have HEQ := Lib.hid heq
        clear hx hx' heq
        obtain ⟨F, hF⟩ : ∃ F, F = coF y := ⟨_, rfl⟩
        obtain ⟨F', hF'⟩ : ∃ F, F = coF z := ⟨_, rfl⟩
        rw [← hF, ← hF'] at HEQ
        rw [← hF] at HX
        rw [← hF'] at HX'
        clear hF hF'
        iterate 3 still_step
        refine wpStill_load_cells rfl 63 _ rfl b (off + j * 3) rfl 3 F _ HX.out Try.underlying63 rfl sizeCon' ?_
        iterate 3 still_step
        refine wpStill_load_cells rfl 63 _ rfl b' (off' + j * 3) rfl 3 F' _ HX'.out Try.underlying63 rfl sizeCon' ?_
        refine wpStill_nil ?_
        obtain ⟨r, hr⟩ : ∃ r, r = decide (y = z) := ⟨_, rfl⟩
        rw [← hr] at HEQ
        refine wpList_neq_arr rfl 63 _ _ _ rfl (arr 3 F) (arr 3 F') r rfl rfl guardCon HEQ.out ?_
        cases r
        · have hd := take_diff HY.out HZ.out (of_decide_eq_false hr.symm)
          have HE := Lib.hid (decide_eq_false hd)
          clear hd hr
          go_wp2_with fail
          go_ret
          exact ⟨ret_bool HE.out.symm, HBW.out⟩
        · have HD := Lib.hid (take_more HY.out HZ.out (of_decide_eq_true hr.symm) HTK.out)
          clear hr
          go_wp2_with fail
          go_roundw
          case rel => exact ⟨j + 1, by omega, by go_num, HBW.out, HD.out⟩
          case measure => simp [intOf]; omega
      · obtain rfl : j = n := by omega
        have HE := Lib.hid (show decide (L = M) = true by
          have h := HTK.out
          rw [List.take_of_length_le (by rw [HL.out]; exact Nat.le_refl _), List.take_of_length_le (by rw [HM.out]; exact Nat.le_refl _)] at h
          exact decide_eq_true h)
        have hlt' : decide (j < j) = false := by simp
        clear hlt hj
        go_wp2_with fail
        go_ret
        exact ⟨ret_bool HE.out.symm, HB.out⟩
  · have tn : ((n : Int) == n') = false := by rw [beq_eq_false_iff_ne]; omega
    have HE := Lib.hid (show decide (L = M) = false from decide_eq_false fun e => hnn (by rw [← HL.out, ← HM.out, e]))
    clear hnn
    go_wp2_with fail
    go_ret
    exact ⟨ret_bool HE.out.symm, Below.refl _ _⟩
end Go.Proofs.Ytbomihdnnidelaa
