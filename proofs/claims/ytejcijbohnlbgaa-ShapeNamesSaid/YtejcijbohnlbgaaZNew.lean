/- Blocks of many cells that are made: laws of alloc, box, build. No function of the program. -/
import Derived.Test.YtejcijbohnlbgaaZMem
namespace Go.Proofs.Ytejcijbohnlbgaa
open Go.ChangeShapes Go.WideShapes Go.ChangeAt Go.RowKit
open Zon
set_option linter.unusedVariables false
section
variable {P : Program}
theorem run_alloc_seg (w : World) (t : TypeId) (n : Nat) (f : Nat → Value) (hz : (P.info? t).bind (fun i => i.zero.map Value.cells) = some (arr n f)) :
    (Instr.alloc t true (.tuple #[])).run P w = .ok (.pointer (some ⟨w.heap.size, 0, none⟩)) (w.alloc (.cells (arr n f) t)) := by
  cases hq : P.info? t with
  | none => simp [hq] at hz
  | some i =>
    cases hzz : i.zero with
    | none => simp [hq, hzz] at hz
    | some z =>
      have hc : z.cells = arr n f := by simpa [hq, hzz] using hz
      simp [Instr.alloc, zeroValue, typeInfo, hq, hzz, newVar, newRow, go_sem]
      exact congrArg (fun c => w.alloc (.cells c t)) hc
theorem wpList_alloc_seg {ops : Array Oper} {rest : List Oper} {o : Oper} {a : Act} {w : World} {Q : Exit → Act → World → Prop} (hgd : o.guard = none) (t : TypeId) (ho : o.op = .alloc t)
    (n : Nat) (f : Nat → Value) (hz : (P.info? t).bind (fun i => i.zero.map Value.cells) = some (arr n f))
    (h : ∀ w', FB w' w.heap.size t n f → Below w.heap.size w w' → w'.heap.size = w.heap.size + 1 → wpList P ops Q rest (a.put o.dst (.pointer (some ⟨w.heap.size, 0, none⟩))) w') : wpList P ops Q (o :: rest) a w :=
  wpList_plain hgd fun _ hK => by
    unfold Oper.wp execOp
    simp only [ho, Sem.run_bind, run_alloc_seg w t n f hz, Result.andThen_ok, Sem.run_pure]
    exact hK _ _ (h _ (FB.new w t n f) ((Below.refl _ _).alloc (Nat.le_refl _) _) (by simp))
theorem run_box_seg (w : World) (t : TypeId) (n : Nat) (f : Nat → Value) :
    (Instr.box t (.agg (arr n f))).run P w = .ok (.pointer (some ⟨w.heap.size, 0, none⟩)) (w.alloc (.cells (arr n f) t)) := by
  simp [Instr.box, newVar, newRow, Value.cells, go_sem]
theorem wpList_box_seg {ops : Array Oper} {rest : List Oper} {o : Oper} {a : Act} {w : World} {Q : Exit → Act → World → Prop} (hgd : o.guard = none) (t : TypeId) (x : Operand) (ho : o.op = .box t x)
    (n : Nat) (f : Nat → Value) (hx : a.eval x = .agg (arr n f))
    (h : ∀ w', FB w' w.heap.size t n f → Below w.heap.size w w' → w'.heap.size = w.heap.size + 1 → wpList P ops Q rest (a.put o.dst (.pointer (some ⟨w.heap.size, 0, none⟩))) w') : wpList P ops Q (o :: rest) a w :=
  wpList_plain hgd fun _ hK => by
    unfold Oper.wp execOp
    simp only [ho, hx, Sem.run_bind, run_box_seg w t n f, Result.andThen_ok, Sem.run_pure]
    exact hK _ _ (h _ (FB.new w t n f) ((Below.refl _ _).alloc (Nat.le_refl _) _) (by simp))
theorem arr_set (N : Nat) (f : Nat → Value) (k : Nat) (v : Value) : (arr N f).setIfInBounds k v = arr N (upd f k v) := by
  refine arr_of _ _ _ (by simp [arr_size]) fun j hj => ?_
  unfold upd
  rw [Array.getElem?_setIfInBounds]
  by_cases e : j = k
  · subst e; rw [if_pos rfl, if_pos (by rw [arr_size]; exact hj), if_pos rfl]
  · rw [if_neg (fun e' => e e'.symm), if_neg e]; exact arr_get N f j hj
theorem fold_list (off : Nat) (c : Nat → Value) : ∀ (n m : Nat) (N : Nat) (f : Nat → Value),
    (((List.range' m n).map fun k => (c k, k)).foldl (fun cs (x : Value × Nat) => cs.setIfInBounds (off + x.2) x.1) (arr N f)) = arr N (updR f (off + m) n (fun q => c (m + q)))
  | 0, m, N, f => by simp only [List.range'_zero, List.map_nil, List.foldl_nil]; exact arr_congr fun k _ => (updR_zero _ _ _ _).symm
  | n + 1, m, N, f => by
    rw [List.range'_succ, List.map_cons, List.foldl_cons, arr_set, fold_list off c n (m + 1)]
    refine arr_congr fun k _ => ?_
    unfold updR upd
    by_cases e : k = off + m
    · subst e
      rw [if_neg (by omega), if_pos rfl, if_pos (by omega), show off + m - (off + m) = 0 by omega]
      rfl
    · by_cases h2 : off + (m + 1) ≤ k ∧ k < off + (m + 1) + n
      · rw [if_pos h2, if_pos (by omega)]; exact congrArg c (by omega)
      · rw [if_neg h2, if_neg e, if_neg (by omega)]
theorem zipIdx_arr (n : Nat) (c : Nat → Value) : (arr n c).zipIdx = ((List.range' 0 n).map fun k => (c k, k)).toArray := by
  apply Array.ext_getElem?
  intro k
  rcases Nat.lt_or_ge k n with h | h
  · simp [h, arr]
  · rw [Array.getElem?_eq_none (by simp [arr_size]; omega), Array.getElem?_eq_none (by simp; omega)]
theorem fold_seg (N off n : Nat) (f c : Nat → Value) : (arr n c).zipIdx.foldl (fun cs (x : Value × Nat) => cs.setIfInBounds (off + x.2) x.1) (arr N f) = arr N (updR f off n c) := by
  rw [zipIdx_arr, List.foldl_toArray', fold_list]
  · exact arr_congr fun k _ => by simp only [Nat.add_zero, Nat.zero_add]
  · simp
/-- a struct of one part that is many cells wide, the rest as it is at first -/
theorem built_seg (t : TypeId) (i N off n : Nat) (f c : Nat → Value) (fields : Array Field) (places : List (Nat × Nat)) (hu : P.underlying t = some (.struct fields))
    (hz : (P.info? t).bind (fun i => i.zero.map Value.cells) = some (arr N f)) (hp : fields.toList.mapM (fun f => (P.info? f.type).map fun i => (f.offset, i.size)) = some places)
    (hi : places[i]? = some (off, n)) (hn : off + n ≤ N) : P.built t [(i, .agg (arr n c))] = some (arr N (updR f off n c)) := by
  unfold Program.built
  cases hq : P.info? t with
  | none => simp [hq] at hz
  | some it =>
    cases hzz : it.zero with
    | none => simp [hq, hzz] at hz
    | some z =>
      have hc : z.cells = arr N f := by simpa [hq, hzz] using hz
      have hi' : places.toArray[i]? = some (off, n) := by simpa using hi
      simp only [hu, hzz, hp]
      show Instr.fill (fun x => places.toArray[x]?) z.cells [(i, .agg (arr n c))] = _
      rw [hc]
      unfold Instr.fill
      simp only [hi']
      have hs : (Value.agg (arr n c)).cells.size = n := arr_size n c
      have hno : ¬ ((decide ((Value.agg (arr n c)).cells.size ≠ n) || decide (off + (Value.agg (arr n c)).cells.size > (arr N f).size)) = true) := by
        rw [hs, arr_size]; simp; omega
      rw [if_neg hno]
      unfold Instr.fill
      exact congrArg some (fold_seg N off n f c)
theorem wpList_build_to {ops : Array Oper} {rest : List Oper} {o : Oper} {a : Act} {w : World} {Q : Exit → Act → World → Prop} (hg : o.guard = none) (t : TypeId) (parts : Array (Nat × Operand)) (ho : o.op = .build t parts)
    (ps : List (Nat × Value)) (cs : Array Value) (hps : (parts.map fun (i, x) => (i, a.eval x)).toList = ps) (hf : P.built t ps = some cs)
    (h : wpList P ops Q rest (a.put o.dst (.agg cs)) w) : wpList P ops Q (o :: rest) a w := by
  subst hps
  refine wpList_build hg t parts ho (by rw [hf]; rfl) ?_
  rw [hf]
  exact h
theorem wpList_build_one {ops : Array Oper} {rest : List Oper} {o : Oper} {a : Act} {w : World} {Q : Exit → Act → World → Prop} (hg : o.guard = none) (t : TypeId) (i : Nat) (x : Operand) (ho : o.op = .build t #[(i, x)])
    (v : Value) (cs : Array Value) (hx : a.eval x = v) (hf : P.built t [(i, v)] = some cs)
    (h : wpList P ops Q rest (a.put o.dst (.agg cs)) w) : wpList P ops Q (o :: rest) a w :=
  wpList_build_to hg t #[(i, x)] ho [(i, v)] cs (by simp [hx]) hf h
end
end Go.Proofs.Ytejcijbohnlbgaa
