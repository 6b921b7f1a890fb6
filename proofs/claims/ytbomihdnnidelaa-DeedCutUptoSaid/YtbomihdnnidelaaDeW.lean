/- Package deed: what is wrong with a claim. -/
import Derived.Test.YtbomihdnnidelaaDeV
namespace Go.Proofs.Ytbomihdnnidelaa
open Go.ChangeShapes Go.WideShapes Go.ChangeAt Go.RowKit
open Dee
set_option linter.unusedVariables false
set_option linter.unusedSimpArgs false
set_option maxRecDepth 100000
section
variable {P : Program} (w : World)
theorem run_equalIn_arr (d : Nat) (t e : TypeId) (len n : Nat) (xs ys : Array Value) (r : Nat → Bool) (ht : P.underlying t = some (.array len e)) (hi : (P.info? e).map (·.size) = some n)
    (h : ∀ i, i < len → ∃ a b, (part e xs (i * n)).run P w = .ok a w ∧ (part e ys (i * n)).run P w = .ok b w ∧ (Op.equalIn d e a b).run P w = .ok (r i) w) :
    (Op.equalIn (d + 1) t (.agg xs) (.agg ys)).run P w = .ok ((List.range len).all r) w := by
  cases hq : P.info? e with
  | none => simp [hq] at hi
  | some inf =>
    have hs : inf.size = n := by simpa [hq] using hi
    simp only [Op.equalIn, Sem.run_bind, run_underlying ht, Result.andThen_ok, sizeOf, typeInfo, hq, run_program, Sem.run_pure, hs]
    simp only [Std.Legacy.Range.forIn_eq_forIn_range', Std.Legacy.Range.size, Nat.sub_zero, Nat.add_sub_cancel, Nat.div_one]
    rw [List.range_eq_range']
    have hl : ∀ i, i ∈ List.range' 0 len 1 → i < len := fun i hi => by
      rw [List.mem_range'] at hi
      obtain ⟨k, hk, rfl⟩ := hi
      omega
    generalize List.range' 0 len 1 = l at hl ⊢
    clear ht
    induction l with
    | nil => simp
    | cons i l ih =>
      obtain ⟨a, b, h1, h2, h3⟩ := h i (hl i (by simp))
      simp only [List.forIn_cons, Sem.run_bind, h1, h2, h3, Result.andThen_ok]
      cases hr : r i
      · simp [hr]
      · simp only [Bool.not_true, Bool.false_eq_true, if_false, Sem.run_pure, Result.andThen_ok]
        rw [ih (fun j hj => hl j (by simp [hj]))]
        simp [hr]
theorem run_part_seg (e : TypeId) (N n o : Nat) (f : Nat → Value) (d : TypeDesc) (hu : P.underlying e = some d) (hd : (match d with | .struct _ | .array _ _ => true | _ => false) = true) (hi : (P.info? e).map (·.size) = some n) (hn : o + n ≤ N) :
    (part e (arr N f) o).run P w = .ok (.agg (arr n fun q => f (o + q))) w := by
  have hagg : (isAgg e).run P w = .ok true w := by
    unfold isAgg
    rw [Sem.run_bind, run_underlying hu w]
    cases d <;> simp_all
  cases hq : P.info? e with
  | none => simp [hq] at hi
  | some inf =>
    have hs : inf.size = n := by simpa [hq] using hi
    have he : (arr N f).extract o (o + n) = arr n fun q => f (o + q) := by
      refine arr_of _ _ _ (by simp [arr_size]; omega) fun k hk => ?_
      rw [Array.getElem?_extract]
      have : k < min (o + n) N - o := by omega
      simp [arr_size, this, arr_get N f (o + k) (by omega)]
    simp [part, Sem.run_bind, hagg, sizeOf, typeInfo, hq, hs, he]
theorem wpList_eql_arr {ops : Array Oper} {rest : List Oper} {o : Oper} {a : Act} {Q : Exit → Act → World → Prop} (hgd : Region.wanted o (yielded ops a.tmps) = true) (t rt : TypeId) (x y : Operand) (ho : o.op = .binOp .eql t x y rt) (xs ys : Array Value) (r : Bool) (hx : a.eval x = .agg xs) (hy : a.eval y = .agg ys)
    (hm : P.eqGuardType P.depth t = false) (hr : (Op.equalIn 10000 t (.agg xs) (.agg ys)).run P w = .ok r w) (h : wpList P ops Q rest (a.put o.dst (.bool r)) w) : wpList P ops Q (o :: rest) a w :=
  wpList_step fun K hK => by
    rw [if_pos hgd]
    unfold Oper.wp execOp
    simp only [ho, hx, hy, Sem.run_bind, run_eqGuard_agg w .eql t x y xs ys hm, Result.andThen_ok, run_eql_struct, hr, Sem.run_pure]
    exact hK _ _ h
theorem wpList_build_zero {ops : Array Oper} {rest : List Oper} {o : Oper} {a : Act} {Q : Exit → Act → World → Prop} (hgd : Region.wanted o (yielded ops a.tmps) = true) (t : TypeId) (ho : o.op = .build t #[])
    (cs : Array Value) (hf : (Instr.build t #[]).run P w = .ok (.agg cs) w) (h : wpList P ops Q rest (a.put o.dst (.agg cs)) w) : wpList P ops Q (o :: rest) a w :=
  wpList_step fun K hK => by
    rw [if_pos hgd]
    unfold Oper.wp execOp
    simp only [ho, List.map_toArray, List.map_nil, Sem.run_bind, hf, Result.andThen_ok, Sem.run_pure]
    exact hK _ _ h
end
theorem eq_tag9 (t u : Tag) (w : World) : (Op.equalIn 9999 56 (.agg (arr 3 (tgF t))) (.agg (arr 3 (tgF u)))).run Try.prog w = .ok (decide (t = u)) w := by
  have u3 := Try.underlying3
  have hS : Try.prog.underlying 56 = some (.struct (Try.prog.fieldsOf 56)) := by kernel_rfl
  obtain ⟨k, t, m⟩ := t
  obtain ⟨k', t', m'⟩ := u
  rw [show arr 3 (tgF ⟨k, t, m⟩) = #[.int .i64 k, .int .i64 t, .int .i64 m] from rfl, show arr 3 (tgF ⟨k', t', m'⟩) = #[.int .i64 k', .int .i64 t', .int .i64 m'] from rfl]
  by_cases h : (⟨k, t, m⟩ : Tag) = ⟨k', t', m'⟩
  · rw [decide_eq_true h]
    injection h with h1 h2 h3
    subst h1 h2 h3
    rw [show (9999 : Nat) = 9998 + 1 from rfl, run_equalIn_struct w 9998 56 _ _ hS (by kernel_rfl)]
    simp only [Program.fieldsOf, Try.underlying56]
    go_simp
  · rw [decide_eq_false h]
    rw [show (9999 : Nat) = 9998 + 1 from rfl, run_equalIn_struct w 9998 56 _ _ hS (by kernel_rfl)]
    simp only [Program.fieldsOf, Try.underlying56]
    go_simp
    intro h0 h1 h2
    exact h (by rw [h0, h1, h2])
theorem tsF_part (S : Nat → Tag) (i : Nat) : arr 3 (fun q => tsF S (i * 3 + q)) = arr 3 (tgF (S i)) := arr_congr fun q hq => by
  unfold tsF
  rw [show (i * 3 + q) / 3 = i by omega, show (i * 3 + q) % 3 = q by omega]
theorem eq_tags (t : TypeId) (len : Nat) (ht : Try.prog.underlying t = some (.array len 56)) (S U : Nat → Tag) (w : World) :
    (Op.equalIn 10000 t (.agg (arr (len * 3) (tsF S))) (.agg (arr (len * 3) (tsF U)))).run Try.prog w = .ok ((List.range len).all fun i => decide (S i = U i)) w :=
  run_equalIn_arr w 9999 t 56 len 3 _ _ _ ht sizeTag fun i hi => by
    refine ⟨_, _, run_part_seg w 56 (len * 3) 3 (i * 3) _ _ Try.underlying56 rfl sizeTag (by omega), run_part_seg w 56 (len * 3) 3 (i * 3) _ _ Try.underlying56 rfl sizeTag (by omega), ?_⟩
    rw [tsF_part, tsF_part]
    exact eq_tag9 _ _ w
theorem zero10 (w : World) : (Instr.build 57 #[]).run Try.prog w = .ok (.agg (arr 30 (tsF fun _ => Tag.zero))) w := by kernel_rfl
theorem zero32 (w : World) : (Instr.build 58 #[]).run Try.prog w = .ok (.agg (arr 96 (tsF fun _ => Tag.zero))) w := by kernel_rfl
theorem sizeTags10 : (Try.prog.info? 57).map (·.size) = some 30 := by kernel_rfl
theorem guard10 : Try.prog.eqGuardType Try.prog.depth 57 = false := by kernel_rfl
theorem guard32 : Try.prog.eqGuardType Try.prog.depth 58 = false := by kernel_rfl
end Go.Proofs.Ytbomihdnnidelaa
