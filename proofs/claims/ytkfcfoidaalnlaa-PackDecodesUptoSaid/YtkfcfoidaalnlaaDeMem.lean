/- Blocks told by a function of the place; pieces of them read and written whole (as ZMem, over Core's blocks). No function of the program. -/
import Derived.WalkKit
import Derived.Test.YtkfcfoidaalnlaaRows
import Derived.ProofKit
import Derived.OpenShut
import Derived.Lib.Hide
import Derived.Deep.QuietTactic
import Derived.BigQuiet
import Derived.Below
import Derived.Laws.OwnMore
import Derived.Laws.Rows
import Derived.Laws.CopyRow
import Derived.Deep.AppendLies
import Derived.Deep.Draws
import Derived.Maps.AppendAt
import Derived.RegionTactic
import Derived.OwnWalk
import Derived.WalkLawsBesides
import Derived.WalkSpells
import Derived.Deep.DeepCutAuto
import Derived.Deep.DeepFit
import Derived.StillTailTactics
import Derived.Deep.RegionHeld3
import Derived.Test.YtkfcfoidaalnlaaCore
namespace Go.Proofs.Ytkfcfoidaalnlaa
open Go.ChangeShapes Go.WideShapes Go.ChangeAt Go.RowKit
set_option linter.unusedVariables false
set_option linter.unusedSimpArgs false
def arr (n : Nat) (f : Nat → Value) : Array Value := ((List.range n).map f).toArray
theorem arr_size (n : Nat) (f : Nat → Value) : (arr n f).size = n := by simp [arr]
theorem arr_get (n : Nat) (f : Nat → Value) (k : Nat) (h : k < n) : (arr n f)[k]? = some (f k) := by simp [arr, h]
theorem arr_of (cs : Array Value) (n : Nat) (f : Nat → Value) (hs : cs.size = n) (h : ∀ k, k < n → cs[k]? = some (f k)) : cs = arr n f := by
  apply Array.ext_getElem?
  intro k
  rcases Nat.lt_or_ge k n with hk | hk
  · rw [h k hk, arr_get n f k hk]
  · rw [Array.getElem?_eq_none (by omega), Array.getElem?_eq_none (by rw [arr_size]; omega)]
theorem arr_congr {n : Nat} {f g : Nat → Value} (h : ∀ k, k < n → f k = g k) : arr n f = arr n g :=
  arr_of _ _ _ (arr_size n f) fun k hk => by rw [arr_get n f k hk, h k hk]
/-- The block g is n cells, told by a function of the place. -/
def FB (w : World) (g : Nat) (t : TypeId) (n : Nat) (f : Nat → Value) : Prop := Blk w g t (arr n f)
def upd (f : Nat → Value) (k : Nat) (v : Value) : Nat → Value := fun i => if i = k then v else f i
def updR (f : Nat → Value) (o n : Nat) (h : Nat → Value) : Nat → Value := fun i => if o ≤ i ∧ i < o + n then h (i - o) else f i
/-- The block g alone may have turned; blocks may have been made. -/
structure Touch (g : Nat) (w w' : World) : Prop where
  os : w'.os = w.os
  tape : w'.tape = w.tape
  output : w'.output = w.output
  size : w.heap.size ≤ w'.heap.size
  block : ∀ k, k < w.heap.size → k ≠ g → w'.heap[k]? = w.heap[k]?
theorem Touch.refl (g : Nat) (w : World) : Touch g w w := ⟨rfl, rfl, rfl, Nat.le_refl _, fun _ _ _ => rfl⟩
theorem Touch.trans {g : Nat} {a b c : World} (h : Touch g a b) (k : Touch g b c) : Touch g a c :=
  ⟨k.os.trans h.os, k.tape.trans h.tape, k.output.trans h.output, Nat.le_trans h.size k.size, fun i hi hne => (k.block i (Nat.lt_of_lt_of_le hi h.size) hne).trans (h.block i hi hne)⟩
theorem Touch.of_below {g : Nat} {w w' : World} (h : Below w.heap.size w w') : Touch g w w' := ⟨h.os, h.tape, h.output, h.size, fun k hk _ => h.block k hk⟩
theorem Touch.below {g B : Nat} {w w' : World} (h : Touch g w w') (hB : B ≤ g) (hs : B ≤ w.heap.size) : Below B w w' := ⟨h.os, h.tape, h.output, h.size, fun k hk => h.block k (by omega) (by omega)⟩
theorem Touch.drewN {g : Nat} (w : World) (n : Nat) : Touch g w (w.drewN n) := ⟨rfl, rfl, rfl, Nat.le_refl _, fun _ _ _ => rfl⟩
theorem Touch.set_ {g : Nat} (w : World) (i : Nat) (v : Value) : Touch g w (w.setCell ⟨g, i, none⟩ v) := ⟨rfl, rfl, rfl, by simp [World.setCell], fun k _ hne => Below.heap_setCell _ _ _ _ hne⟩
theorem Touch.alloc {g : Nat} (w : World) (o : Obj) : Touch g w (w.alloc o) := .of_below ((Below.refl _ _).alloc (Nat.le_refl _) _)
/-- a block of the call's own: what was there stays -/
theorem Touch.new {w w1 w2 : World} (h : Touch w.heap.size w1 w2) (hb : Below w.heap.size w w1) : Below w.heap.size w w2 := hb.trans (h.below (Nat.le_refl _) hb.size)
section
variable {w w' : World} {g n : Nat} {t : TypeId} {f : Nat → Value}
theorem FB.lt (h : FB w g t n f) : g < w.heap.size := Blk.lt h
theorem FB.cell (h : FB w g t n f) (k : Nat) (hk : k < n) : w.cell? ⟨g, k, none⟩ = some (f k) := (Blk.cell h k).trans (arr_get n f k hk)
theorem FB.frozen (h : FB w g t n f) (k : Nat) : w.frozen? ⟨g, k, none⟩ = false := Blk.frozen h k
theorem FB.congr {f' : Nat → Value} (h : FB w g t n f) (e : ∀ k, k < n → f k = f' k) : FB w g t n f' := by unfold FB; rw [← arr_congr e]; exact h
theorem FB.set_ (h : FB w g t n f) (k : Nat) (v : Value) : FB (w.setCell ⟨g, k, none⟩ v) g t n (upd f k v) := by
  have := Blk.set_ h k v
  unfold FB
  rw [← arr_of ((arr n f).setIfInBounds k v) n (upd f k v) (by simp [arr_size]) ?_]
  · exact this
  · intro j hj
    unfold upd
    rw [Array.getElem?_setIfInBounds]
    by_cases e : j = k
    · subst e; rw [if_pos rfl, if_pos (by rw [arr_size]; exact hj), if_pos rfl]
    · rw [if_neg (fun e' => e e'.symm), if_neg e]; exact arr_get n f j hj
theorem FB.touch {k : Nat} (h : FB w g t n f) (ht : Touch k w w') (hne : g ≠ k) : FB w' g t n f := (ht.block g h.lt hne).trans h
theorem FB.below {B : Nat} (h : FB w g t n f) (hb : Below B w w') (hg : g < B) : FB w' g t n f := Blk.below h hb hg
theorem FB.up (h : FB w g t n f) (hb : Below w.heap.size w w') : FB w' g t n f := Blk.below h hb h.lt
theorem FB.drewN (h : FB w g t n f) (m : Nat) : FB (w.drewN m) g t n f := h
theorem FB.far (h : FB w g t n f) {p : Addr} (hp : g ≠ p.block) (u : Value) : FB (w.setCell p u) g t n f := Blk.far h hp u
theorem FB.alloc (h : FB w g t n f) (o : Obj) : FB (w.alloc o) g t n f := Blk.alloc h o
theorem FB.new (w : World) (t : TypeId) (n : Nat) (f : Nat → Value) : FB (w.alloc (.cells (arr n f) t)) w.heap.size t n f := Blk.new w t _
end
theorem updR_succ (f h : Nat → Value) (o k j : Nat) : upd (updR f o k h) (o + k) (h k) j = updR f o (k + 1) h j := by
  unfold upd updR
  by_cases e : j = o + k
  · subst e
    rw [if_pos rfl, if_pos (by omega), show o + k - o = k by omega]
  · rw [if_neg e]
    by_cases h2 : o ≤ j ∧ j < o + k
    · rw [if_pos h2, if_pos (by omega)]
    · rw [if_neg h2, if_neg (by omega)]
theorem updR_zero (f h : Nat → Value) (o j : Nat) : updR f o 0 h j = f j := by unfold updR; rw [if_neg (by omega)]
theorem updR_out (f h : Nat → Value) (o n j : Nat) (hj : j < o ∨ o + n ≤ j) : updR f o n h j = f j := by unfold updR; rw [if_neg (by omega)]
theorem updR_in (f h : Nat → Value) (o n q : Nat) (hq : q < n) : updR f o n h (o + q) = h q := by unfold updR; rw [if_pos (by omega), show o + q - o = q by omega]
theorem addr_add (g o j : Nat) : (⟨g, o, none⟩ : Addr).add j = ⟨g, o + j, none⟩ := by unfold Addr.add; split <;> simp_all
section
variable {P : Program}
theorem run_loadVar_seg (w : World) (g o : Nat) (t ty : TypeId) (N n : Nat) (f : Nat → Value) (d : TypeDesc) (hg : FB w g t N f) (hn : o + n ≤ N)
    (hu : P.underlying ty = some d) (hd : (match d with | .struct _ | .array _ _ => true | _ => false) = true) (hi : (P.info? ty).map (·.size) = some n) :
    (loadVar ty ⟨g, o, none⟩).run P w = .ok (.agg (arr n fun q => f (o + q))) w := by
  have hl : (loadCells ⟨g, o, none⟩ ((List.range n).map fun q => f (o + q)).length).run P w = .ok ((List.range n).map fun q => f (o + q)).toArray w :=
    run_loadCells_list (P := P) w ⟨g, o, none⟩ _ (fun j v hv => by
      have hj : j < n := by
        rcases Nat.lt_or_ge j n with h | h
        · exact h
        · rw [List.getElem?_eq_none (by simpa using h)] at hv; cases hv
      rw [addr_add, hg.cell (o + j) (by omega)]
      simpa [hj] using hv)
  cases hq : P.info? ty with
  | none => simp [hq] at hi
  | some i =>
    have hs : i.size = n := by simpa [hq] using hi
    have hagg : (isAgg ty).run P w = .ok true w := by
      unfold isAgg
      rw [Sem.run_bind, run_underlying hu w]
      cases d <;> simp_all
    simp only [List.length_map, List.length_range] at hl
    simp [loadVar, Sem.run_bind, hagg, sizeOf, typeInfo, hq, hs, hl, arr]
theorem wpList_load_seg {ops : Array Oper} {rest : List Oper} {o : Oper} {a : Act} {w : World} {Q : Exit → Act → World → Prop} (hgd : o.guard = none) (ty : TypeId) (x : Operand) (ho : o.op = .load ty x)
    (g off : Nat) (hx : a.eval x = .pointer (some ⟨g, off, none⟩)) (t : TypeId) (N n : Nat) (f : Nat → Value) (d : TypeDesc) (hg : FB w g t N f) (hn : off + n ≤ N)
    (hu : P.underlying ty = some d) (hd : (match d with | .struct _ | .array _ _ => true | _ => false) = true) (hi : (P.info? ty).map (·.size) = some n)
    (h : wpList P ops Q rest (a.put o.dst (.agg (arr n fun q => f (off + q)))) w) : wpList P ops Q (o :: rest) a w :=
  wpList_plain hgd fun _ hK => by
    unfold Oper.wp execOp
    simp only [ho, hx, Instr.loadAt, Instr.sureAddr, Sem.run_bind, Sem.run_pure, Result.andThen_ok, run_loadVar_seg w g off t ty N n f d hg hn hu hd hi]
    exact hK _ _ h
theorem arr_toList (n : Nat) (f : Nat → Value) : (arr n f).toList = (List.range n).map f := by simp [arr]
theorem updR_list (N o n : Nat) (f h : Nat → Value) (hn : o + n ≤ N) : ((arr N f).toList.take o ++ (arr n h).toList ++ (arr N f).toList.drop (o + (arr n h).toList.length)).toArray = arr N (updR f o n h) := by
  apply arr_of
  · simp [arr]; omega
  · intro k hk
    have e : min o N = o := by omega
    simp only [List.getElem?_toArray, arr_toList, List.length_map, List.length_range]
    have l1 : (List.take o ((List.range N).map f)).length = o := by simp [e]
    have l2 : (List.take o ((List.range N).map f) ++ (List.range n).map h).length = o + n := by simp [e]
    by_cases h2 : k < o + n
    · rw [List.getElem?_append_left (by rw [l2]; exact h2)]
      by_cases h1 : k < o
      · rw [List.getElem?_append_left (by rw [l1]; exact h1), List.getElem?_take, if_pos h1]
        unfold updR; rw [if_neg (by omega)]; simp [hk]
      · rw [List.getElem?_append_right (by rw [l1]; omega), l1]
        unfold updR; rw [if_pos (by omega)]
        have : k - o < n := by omega
        simp [this]
    · rw [List.getElem?_append_right (by rw [l2]; omega), l2, List.getElem?_drop]
      unfold updR; rw [if_neg (by omega)]
      rw [show o + n + (k - (o + n)) = k by omega]; simp [hk]
theorem run_storeVar_seg (w : World) (g o : Nat) (t ty : TypeId) (N n : Nat) (f h : Nat → Value) (hg : FB w g t N f) (hn : o + n ≤ N) (hi : (P.info? ty).map (·.size) = some n) (h1 : ∀ q, q < n → (h q).oneCell' = true) :
    (storeVar ty ⟨g, o, none⟩ (.agg (arr n h))).run P w = .ok () (w.setRow g (arr N (updR f o n h))) := by
  have := run_storeCells_at P g o t (arr n h).toList 0 (arr N f) w hg (by simp [arr]; omega) (fun v hv => by
    rw [arr_toList, List.mem_map] at hv
    obtain ⟨q, hq, rfl⟩ := hv
    exact h1 q (by simpa using hq))
  rw [Nat.add_zero, updR_list N o n f h hn] at this
  cases hq : P.info? ty with
  | none => simp [hq] at hi
  | some i =>
    have hs : n = i.size := by simp [hq] at hi; omega
    have hsz : (arr n h).size = n := arr_size n h
    simp [storeVar, sizeOf, typeInfo, hq, Value.cells, ← hs, hsz, this]
theorem setRow_FB {w : World} {g : Nat} {t : TypeId} {N : Nat} {f f' : Nat → Value} (hg : FB w g t N f) : FB (w.setRow g (arr N f')) g t N f' := setRow_heap w g (arr N f) (arr N f') t (0, 0) hg
theorem setRow_touch (w : World) (g : Nat) (cs : Array Value) : Touch g w (w.setRow g cs) := ⟨rfl, rfl, rfl, by simp, fun k _ hne => setRow_other w g k cs hne⟩
theorem wpList_store_seg {ops : Array Oper} {rest : List Oper} {o : Oper} {a : Act} {w : World} {Q : Exit → Act → World → Prop} (hgd : o.guard = none) (ty : TypeId) (x y : Operand) (ho : o.op = .store ty x y)
    (g off : Nat) (t : TypeId) (N n : Nat) (f c : Nat → Value) (hx : a.eval x = .pointer (some ⟨g, off, none⟩)) (hy : a.eval y = .agg (arr n c))
    (hg : FB w g t N f) (hn : off + n ≤ N) (hi : (P.info? ty).map (·.size) = some n) (h1 : ∀ q, q < n → (c q).oneCell' = true)
    (h : ∀ w', FB w' g t N (updR f off n c) → Touch g w w' → w'.heap.size = w.heap.size → wpList P ops Q rest (a.put o.dst undef) w') : wpList P ops Q (o :: rest) a w :=
  wpList_plain hgd fun _ hK => by
    unfold Oper.wp execOp
    simp only [ho, hx, hy, Instr.storeAt, Instr.sureAddr, Sem.run_bind, Sem.run_pure, Result.andThen_ok, run_storeVar_seg w g off t ty N n f c hg hn hi h1]
    exact hK _ _ (h _ (setRow_FB hg) (setRow_touch w g _) (by simp))
theorem wpList_load_all {ops : Array Oper} {rest : List Oper} {o : Oper} {a : Act} {w : World} {Q : Exit → Act → World → Prop} (hgd : o.guard = none) (ty : TypeId) (x : Operand) (ho : o.op = .load ty x)
    (g : Nat) (hx : a.eval x = .pointer (some ⟨g, 0, none⟩)) (t : TypeId) (n : Nat) (f : Nat → Value) (d : TypeDesc) (hg : FB w g t n f)
    (hu : P.underlying ty = some d) (hd : (match d with | .struct _ | .array _ _ => true | _ => false) = true) (hi : (P.info? ty).map (·.size) = some n)
    (h : wpList P ops Q rest (a.put o.dst (.agg (arr n f))) w) : wpList P ops Q (o :: rest) a w := by
  refine wpList_load_seg hgd ty x ho g 0 hx t n n f d hg (by omega) hu hd hi ?_
  rw [arr_congr (g := f) (fun k _ => by rw [Nat.zero_add])]
  exact h
theorem wpList_store_all {ops : Array Oper} {rest : List Oper} {o : Oper} {a : Act} {w : World} {Q : Exit → Act → World → Prop} (hgd : o.guard = none) (ty : TypeId) (x y : Operand) (ho : o.op = .store ty x y)
    (g : Nat) (t : TypeId) (n : Nat) (f c : Nat → Value) (hx : a.eval x = .pointer (some ⟨g, 0, none⟩)) (hy : a.eval y = .agg (arr n c))
    (hg : FB w g t n f) (hi : (P.info? ty).map (·.size) = some n) (h1 : ∀ q, q < n → (c q).oneCell' = true)
    (h : ∀ w', FB w' g t n c → Touch g w w' → w'.heap.size = w.heap.size → wpList P ops Q rest (a.put o.dst undef) w') : wpList P ops Q (o :: rest) a w := by
  refine wpList_store_seg hgd ty x y ho g 0 t n n f c hx hy hg (by omega) hi h1 fun w' hb => h w' (hb.congr fun k hk => ?_)
  unfold updR
  rw [if_pos (by omega), Nat.sub_zero]
theorem result_seg {fn : Func} {p : Tmp} {ty : TypeId} (h : fn.results = #[.cell p ty]) (tmps : Array Value) (w : World) (g : Nat) (t : TypeId) (n : Nat) (f : Nat → Value) (d : TypeDesc)
    (hp : tmps.getD p undef = .pointer (some ⟨g, 0, none⟩)) (hg : FB w g t n f)
    (hu : P.underlying ty = some d) (hd : (match d with | .struct _ | .array _ _ => true | _ => false) = true) (hi : (P.info? ty).map (·.size) = some n) :
    (results fn tmps).run P w = .ok (.agg (arr n f)) w :=
  results_cell_row h tmps w g t (arr n f) (0, 0) d hp hg hu hd (by rw [hi, arr_size])
end
section
variable {P : Program}
theorem run_alloc_seg (w : World) (t : TypeId) (n : Nat) (f : Nat → Value) (hz : (P.info? t).bind (fun i => i.zero.map Value.cells) = some (arr n f)) :
    (Instr.alloc t true (.tuple #[])).run P w = .ok (.pointer (some ⟨w.heap.size, 0, none⟩)) (w.alloc (.cells (arr n f) t)) := by
  cases hq : P.info? t with
  | none => simp [hq] at hz
  | some i =>
    cases hzz : i.zero with
    | none => simp [hq, hzz] at hz
    | some z =>
      have hc : z.cells = arr n f := by simpa [hq, hzz] using hz
      simp [Instr.alloc, zeroValue, typeInfo, hq, hzz, newVar, newRow, go_sem]
      exact congrArg (fun c => w.alloc (.cells c t)) hc
theorem wpList_alloc_seg {ops : Array Oper} {rest : List Oper} {o : Oper} {a : Act} {w : World} {Q : Exit → Act → World → Prop} (hgd : o.guard = none) (t : TypeId) (ho : o.op = .alloc t)
    (n : Nat) (f : Nat → Value) (hz : (P.info? t).bind (fun i => i.zero.map Value.cells) = some (arr n f))
    (h : ∀ w', FB w' w.heap.size t n f → Below w.heap.size w w' → w'.heap.size = w.heap.size + 1 → wpList P ops Q rest (a.put o.dst (.pointer (some ⟨w.heap.size, 0, none⟩))) w') : wpList P ops Q (o :: rest) a w :=
  wpList_plain hgd fun _ hK => by
    unfold Oper.wp execOp
    simp only [ho, Sem.run_bind, run_alloc_seg w t n f hz, Result.andThen_ok, Sem.run_pure]
    exact hK _ _ (h _ (FB.new w t n f) ((Below.refl _ _).alloc (Nat.le_refl _) _) (by simp))
theorem run_box_seg (w : World) (t : TypeId) (n : Nat) (f : Nat → Value) :
    (Instr.box t (.agg (arr n f))).run P w = .ok (.pointer (some ⟨w.heap.size, 0, none⟩)) (w.alloc (.cells (arr n f) t)) := by
  simp [Instr.box, newVar, newRow, Value.cells, go_sem]
theorem wpList_box_seg {ops : Array Oper} {rest : List Oper} {o : Oper} {a : Act} {w : World} {Q : Exit → Act → World → Prop} (hgd : o.guard = none) (t : TypeId) (x : Operand) (ho : o.op = .box t x)
    (n : Nat) (f : Nat → Value) (hx : a.eval x = .agg (arr n f))
    (h : ∀ w', FB w' w.heap.size t n f → Below w.heap.size w w' → w'.heap.size = w.heap.size + 1 → wpList P ops Q rest (a.put o.dst (.pointer (some ⟨w.heap.size, 0, none⟩))) w') : wpList P ops Q (o :: rest) a w :=
  wpList_plain hgd fun _ hK => by
    unfold Oper.wp execOp
    simp only [ho, hx, Sem.run_bind, run_box_seg w t n f, Result.andThen_ok, Sem.run_pure]
    exact hK _ _ (h _ (FB.new w t n f) ((Below.refl _ _).alloc (Nat.le_refl _) _) (by simp))
theorem arr_set (N : Nat) (f : Nat → Value) (k : Nat) (v : Value) : (arr N f).setIfInBounds k v = arr N (upd f k v) := by
  refine arr_of _ _ _ (by simp [arr_size]) fun j hj => ?_
  unfold upd
  rw [Array.getElem?_setIfInBounds]
  by_cases e : j = k
  · subst e; rw [if_pos rfl, if_pos (by rw [arr_size]; exact hj), if_pos rfl]
  · rw [if_neg (fun e' => e e'.symm), if_neg e]; exact arr_get N f j hj
theorem fold_list (off : Nat) (c : Nat → Value) : ∀ (n m : Nat) (N : Nat) (f : Nat → Value),
    (((List.range' m n).map fun k => (c k, k)).foldl (fun cs (x : Value × Nat) => cs.setIfInBounds (off + x.2) x.1) (arr N f)) = arr N (updR f (off + m) n (fun q => c (m + q)))
  | 0, m, N, f => by simp only [List.range'_zero, List.map_nil, List.foldl_nil]; exact arr_congr fun k _ => (updR_zero _ _ _ _).symm
  | n + 1, m, N, f => by
    rw [List.range'_succ, List.map_cons, List.foldl_cons, arr_set, fold_list off c n (m + 1)]
    refine arr_congr fun k _ => ?_
    unfold updR upd
    by_cases e : k = off + m
    · subst e
      rw [if_neg (by omega), if_pos rfl, if_pos (by omega), show off + m - (off + m) = 0 by omega]
      rfl
    · by_cases h2 : off + (m + 1) ≤ k ∧ k < off + (m + 1) + n
      · rw [if_pos h2, if_pos (by omega)]; exact congrArg c (by omega)
      · rw [if_neg h2, if_neg e, if_neg (by omega)]
theorem zipIdx_arr (n : Nat) (c : Nat → Value) : (arr n c).zipIdx = ((List.range' 0 n).map fun k => (c k, k)).toArray := by
  apply Array.ext_getElem?
  intro k
  rcases Nat.lt_or_ge k n with h | h
  · simp [h, arr]
  · rw [Array.getElem?_eq_none (by simp [arr_size]; omega), Array.getElem?_eq_none (by simp; omega)]
theorem fold_seg (N off n : Nat) (f c : Nat → Value) : (arr n c).zipIdx.foldl (fun cs (x : Value × Nat) => cs.setIfInBounds (off + x.2) x.1) (arr N f) = arr N (updR f off n c) := by
  rw [zipIdx_arr, List.foldl_toArray', fold_list]
  · exact arr_congr fun k _ => by simp only [Nat.add_zero, Nat.zero_add]
  · simp
/-- a struct of one part that is many cells wide, the rest as it is at first -/
theorem built_seg (t : TypeId) (i N off n : Nat) (f c : Nat → Value) (fields : Array Field) (places : List (Nat × Nat)) (hu : P.underlying t = some (.struct fields))
    (hz : (P.info? t).bind (fun i => i.zero.map Value.cells) = some (arr N f)) (hp : fields.toList.mapM (fun f => (P.info? f.type).map fun i => (f.offset, i.size)) = some places)
    (hi : places[i]? = some (off, n)) (hn : off + n ≤ N) : P.built t [(i, .agg (arr n c))] = some (arr N (updR f off n c)) := by
  unfold Program.built
  cases hq : P.info? t with
  | none => simp [hq] at hz
  | some it =>
    cases hzz : it.zero with
    | none => simp [hq, hzz] at hz
    | some z =>
      have hc : z.cells = arr N f := by simpa [hq, hzz] using hz
      have hi' : places.toArray[i]? = some (off, n) := by simpa using hi
      simp only [hu, hzz, hp]
      show Instr.fill (fun x => places.toArray[x]?) z.cells [(i, .agg (arr n c))] = _
      rw [hc]
      unfold Instr.fill
      simp only [hi']
      have hs : (Value.agg (arr n c)).cells.size = n := arr_size n c
      have hno : ¬ ((decide ((Value.agg (arr n c)).cells.size ≠ n) || decide (off + (Value.agg (arr n c)).cells.size > (arr N f).size)) = true) := by
        rw [hs, arr_size]; simp; omega
      rw [if_neg hno]
      unfold Instr.fill
      exact congrArg some (fold_seg N off n f c)
theorem wpList_build_to {ops : Array Oper} {rest : List Oper} {o : Oper} {a : Act} {w : World} {Q : Exit → Act → World → Prop} (hg : o.guard = none) (t : TypeId) (parts : Array (Nat × Operand)) (ho : o.op = .build t parts)
    (ps : List (Nat × Value)) (cs : Array Value) (hps : (parts.map fun (i, x) => (i, a.eval x)).toList = ps) (hf : P.built t ps = some cs)
    (h : wpList P ops Q rest (a.put o.dst (.agg cs)) w) : wpList P ops Q (o :: rest) a w := by
  subst hps
  refine wpList_build hg t parts ho (by rw [hf]; rfl) ?_
  rw [hf]
  exact h
theorem wpList_build_one {ops : Array Oper} {rest : List Oper} {o : Oper} {a : Act} {w : World} {Q : Exit → Act → World → Prop} (hg : o.guard = none) (t : TypeId) (i : Nat) (x : Operand) (ho : o.op = .build t #[(i, x)])
    (v : Value) (cs : Array Value) (hx : a.eval x = v) (hf : P.built t [(i, v)] = some cs)
    (h : wpList P ops Q rest (a.put o.dst (.agg cs)) w) : wpList P ops Q (o :: rest) a w :=
  wpList_build_to hg t #[(i, x)] ho [(i, v)] cs (by simp [hx]) hf h
end
theorem ret_i64 {a b : Int} (h : a = b) : Ending.returned (.int .i64 a) = .returned (.int .i64 b) := by rw [h]
theorem ret_bool {a b : Bool} (h : a = b) : Ending.returned (.bool a) = .returned (.bool b) := by rw [h]
theorem wpList_drew {P : Program} {ops : Array Oper} {Q : Exit → Act → World → Prop} {l : List Oper} {a : Act} {W : World} (h : wpList P ops Q l a W.drew) :
    wpList P ops Q l a { heap := W.heap, tape := W.tape, drawn := W.drawn + 1, os := W.os, output := W.output } := h
theorem wp_region_tail {P : Program} {id : Nat} {Q : Exit → Act → World → Prop} {a : Act} {w : World} {l : List Oper} (n : Nat) (hm : P.follows .mixedOrders = true) (hB : Region.lexTailB .any l.toArray n = true)
    (h : ∀ W, W = w.drew → wpStill P l.toArray W (fun a' => wpList P l.toArray Q (l.drop n) a' W) (l.take n) a) : (Code.region id l.toArray true).wp P Q a w := wp_region_still_tail n hm hB (h w.drew rfl)
theorem below_drewN' {B : Nat} {a w : World} (h : Below B a w) (n : Nat) : Below B a (w.drewN n) := ⟨h.os, h.tape, h.output, h.size, h.block⟩
end Go.Proofs.Ytkfcfoidaalnlaa
