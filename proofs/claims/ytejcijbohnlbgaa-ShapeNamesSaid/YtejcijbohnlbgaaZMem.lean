/- Blocks told by a function of the place; pieces of them read and written whole. No function of the program. -/
import Derived.WalkKit
import Derived.Test.YtejcijbohnlbgaaRows
import Derived.ProofKit
import Derived.OpenShut
import Derived.Lib.Hide
import Derived.Deep.QuietTactic
import Derived.BigQuiet
import Derived.Below
import Derived.Laws.OwnMore
import Derived.Laws.Rows
import Derived.Laws.CopyRow
import Derived.Deep.AppendLies
import Derived.Deep.Draws
import Derived.Maps.AppendAt
import Derived.RegionTactic
import Derived.OwnWalk
import Derived.WalkLawsBesides
import Derived.WalkSpells
import Derived.Deep.DeepCutAuto
import Derived.Deep.DeepFit
import Derived.StillTailTactics
import Derived.Deep.RegionHeld3
import Derived.Test.YtejcijbohnlbgaaZoneM2
namespace Go.Proofs.Ytejcijbohnlbgaa
open Go.ChangeShapes Go.WideShapes Go.ChangeAt Go.RowKit
open Zon
set_option linter.unusedVariables false
def arr (n : Nat) (f : Nat → Value) : Array Value := ((List.range n).map f).toArray
theorem arr_size (n : Nat) (f : Nat → Value) : (arr n f).size = n := by simp [arr]
theorem arr_get (n : Nat) (f : Nat → Value) (k : Nat) (h : k < n) : (arr n f)[k]? = some (f k) := by simp [arr, h]
theorem arr_of (cs : Array Value) (n : Nat) (f : Nat → Value) (hs : cs.size = n) (h : ∀ k, k < n → cs[k]? = some (f k)) : cs = arr n f := by
  apply Array.ext_getElem?
  intro k
  rcases Nat.lt_or_ge k n with hk | hk
  · rw [h k hk, arr_get n f k hk]
  · rw [Array.getElem?_eq_none (by omega), Array.getElem?_eq_none (by rw [arr_size]; omega)]
theorem arr_congr {n : Nat} {f g : Nat → Value} (h : ∀ k, k < n → f k = g k) : arr n f = arr n g :=
  arr_of _ _ _ (arr_size n f) fun k hk => by rw [arr_get n f k hk, h k hk]
def Blk (w : World) (g : Nat) (t : TypeId) (cs : Array Value) : Prop := w.heap[g]? = some (.cells cs t (0, 0))
section
variable {w w' : World} {g : Nat} {t : TypeId} {cs : Array Value}
theorem Blk.lt (h : Blk w g t cs) : g < w.heap.size := by
  rcases Nat.lt_or_ge g w.heap.size with hlt | hge
  · exact hlt
  · unfold Blk at h; rw [Array.getElem?_eq_none hge] at h; cases h
theorem Blk.cell (h : Blk w g t cs) (i : Nat) : w.cell? ⟨g, i, none⟩ = cs[i]? := cell_of_row w g i cs t (0, 0) h
theorem Blk.frozen (h : Blk w g t cs) (i : Nat) : w.frozen? ⟨g, i, none⟩ = false := by
  unfold Blk at h
  simp [World.frozen?, h]
theorem Blk.new (w : World) (t : TypeId) (cs : Array Value) : Blk (w.alloc (.cells cs t)) w.heap.size t cs := heap_alloc_new w _
theorem Blk.drewN (h : Blk w g t cs) (n : Nat) : Blk (w.drewN n) g t cs := h
theorem Blk.alloc (h : Blk w g t cs) (o : Obj) : Blk (w.alloc o) g t cs := (Below.heap_alloc w o g h.lt).trans h
theorem Blk.set_ (h : Blk w g t cs) (i : Nat) (u : Value) : Blk (w.setCell ⟨g, i, none⟩ u) g t (cs.setIfInBounds i u) := by
  unfold Blk at h ⊢
  simp [World.setCell, Array.getElem?_modify, h]
theorem Blk.far (h : Blk w g t cs) {p : Addr} (hp : g ≠ p.block) (u : Value) : Blk (w.setCell p u) g t cs := (Below.heap_setCell w p u g hp).trans h
theorem Blk.below {B : Nat} (h : Blk w g t cs) (hb : Below B w w') (hg : g < B) : Blk w' g t cs := (hb.block g hg).trans h
end
/-- The block g is n cells, told by a function of the place. -/
def FB (w : World) (g : Nat) (t : TypeId) (n : Nat) (f : Nat → Value) : Prop := Blk w g t (arr n f)
def upd (f : Nat → Value) (k : Nat) (v : Value) : Nat → Value := fun i => if i = k then v else f i
def updR (f : Nat → Value) (o n : Nat) (h : Nat → Value) : Nat → Value := fun i => if o ≤ i ∧ i < o + n then h (i - o) else f i
/-- The block g alone may have turned; blocks may have been made. -/
structure Touch (g : Nat) (w w' : World) : Prop where
  os : w'.os = w.os
  tape : w'.tape = w.tape
  output : w'.output = w.output
  size : w.heap.size ≤ w'.heap.size
  block : ∀ k, k < w.heap.size → k ≠ g → w'.heap[k]? = w.heap[k]?
theorem Touch.refl (g : Nat) (w : World) : Touch g w w := ⟨rfl, rfl, rfl, Nat.le_refl _, fun _ _ _ => rfl⟩
theorem Touch.trans {g : Nat} {a b c : World} (h : Touch g a b) (k : Touch g b c) : Touch g a c :=
  ⟨k.os.trans h.os, k.tape.trans h.tape, k.output.trans h.output, Nat.le_trans h.size k.size, fun i hi hne => (k.block i (Nat.lt_of_lt_of_le hi h.size) hne).trans (h.block i hi hne)⟩
theorem Touch.of_below {g : Nat} {w w' : World} (h : Below w.heap.size w w') : Touch g w w' := ⟨h.os, h.tape, h.output, h.size, fun k hk _ => h.block k hk⟩
theorem Touch.below {g B : Nat} {w w' : World} (h : Touch g w w') (hB : B ≤ g) (hs : B ≤ w.heap.size) : Below B w w' := ⟨h.os, h.tape, h.output, h.size, fun k hk => h.block k (by omega) (by omega)⟩
theorem Touch.drewN {g : Nat} (w : World) (n : Nat) : Touch g w (w.drewN n) := ⟨rfl, rfl, rfl, Nat.le_refl _, fun _ _ _ => rfl⟩
theorem Touch.set_ {g : Nat} (w : World) (i : Nat) (v : Value) : Touch g w (w.setCell ⟨g, i, none⟩ v) := ⟨rfl, rfl, rfl, by simp [World.setCell], fun k _ hne => Below.heap_setCell _ _ _ _ hne⟩
theorem Touch.alloc {g : Nat} (w : World) (o : Obj) : Touch g w (w.alloc o) := .of_below ((Below.refl _ _).alloc (Nat.le_refl _) _)
/-- a block of the call's own: what was there stays -/
theorem Touch.new {w w1 w2 : World} (h : Touch w.heap.size w1 w2) (hb : Below w.heap.size w w1) : Below w.heap.size w w2 := hb.trans (h.below (Nat.le_refl _) hb.size)
section
variable {w w' : World} {g n : Nat} {t : TypeId} {f : Nat → Value}
theorem FB.lt (h : FB w g t n f) : g < w.heap.size := Blk.lt h
theorem FB.cell (h : FB w g t n f) (k : Nat) (hk : k < n) : w.cell? ⟨g, k, none⟩ = some (f k) := (Blk.cell h k).trans (arr_get n f k hk)
theorem FB.frozen (h : FB w g t n f) (k : Nat) : w.frozen? ⟨g, k, none⟩ = false := Blk.frozen h k
theorem FB.congr {f' : Nat → Value} (h : FB w g t n f) (e : ∀ k, k < n → f k = f' k) : FB w g t n f' := by unfold FB; rw [← arr_congr e]; exact h
theorem FB.set_ (h : FB w g t n f) (k : Nat) (v : Value) : FB (w.setCell ⟨g, k, none⟩ v) g t n (upd f k v) := by
  have := Blk.set_ h k v
  unfold FB
  rw [← arr_of ((arr n f).setIfInBounds k v) n (upd f k v) (by simp [arr_size]) ?_]
  · exact this
  · intro j hj
    unfold upd
    rw [Array.getElem?_setIfInBounds]
    by_cases e : j = k
    · subst e; rw [if_pos rfl, if_pos (by rw [arr_size]; exact hj), if_pos rfl]
    · rw [if_neg (fun e' => e e'.symm), if_neg e]; exact arr_get n f j hj
theorem FB.touch {k : Nat} (h : FB w g t n f) (ht : Touch k w w') (hne : g ≠ k) : FB w' g t n f := (ht.block g h.lt hne).trans h
theorem FB.below {B : Nat} (h : FB w g t n f) (hb : Below B w w') (hg : g < B) : FB w' g t n f := Blk.below h hb hg
theorem FB.up (h : FB w g t n f) (hb : Below w.heap.size w w') : FB w' g t n f := Blk.below h hb h.lt
theorem FB.drewN (h : FB w g t n f) (m : Nat) : FB (w.drewN m) g t n f := h
theorem FB.far (h : FB w g t n f) {p : Addr} (hp : g ≠ p.block) (u : Value) : FB (w.setCell p u) g t n f := Blk.far h hp u
theorem FB.alloc (h : FB w g t n f) (o : Obj) : FB (w.alloc o) g t n f := Blk.alloc h o
theorem FB.new (w : World) (t : TypeId) (n : Nat) (f : Nat → Value) : FB (w.alloc (.cells (arr n f) t)) w.heap.size t n f := Blk.new w t _
end
theorem updR_succ (f h : Nat → Value) (o k j : Nat) : upd (updR f o k h) (o + k) (h k) j = updR f o (k + 1) h j := by
  unfold upd updR
  by_cases e : j = o + k
  · subst e
    rw [if_pos rfl, if_pos (by omega), show o + k - o = k by omega]
  · rw [if_neg e]
    by_cases h2 : o ≤ j ∧ j < o + k
    · rw [if_pos h2, if_pos (by omega)]
    · rw [if_neg h2, if_neg (by omega)]
theorem updR_zero (f h : Nat → Value) (o j : Nat) : updR f o 0 h j = f j := by unfold updR; rw [if_neg (by omega)]
theorem updR_out (f h : Nat → Value) (o n j : Nat) (hj : j < o ∨ o + n ≤ j) : updR f o n h j = f j := by unfold updR; rw [if_neg (by omega)]
theorem updR_in (f h : Nat → Value) (o n q : Nat) (hq : q < n) : updR f o n h (o + q) = h q := by unfold updR; rw [if_pos (by omega), show o + q - o = q by omega]
theorem addr_add (g o j : Nat) : (⟨g, o, none⟩ : Addr).add j = ⟨g, o + j, none⟩ := by unfold Addr.add; split <;> simp_all
section
variable {P : Program}
theorem run_loadVar_seg (w : World) (g o : Nat) (t ty : TypeId) (N n : Nat) (f : Nat → Value) (d : TypeDesc) (hg : FB w g t N f) (hn : o + n ≤ N)
    (hu : P.underlying ty = some d) (hd : (match d with | .struct _ | .array _ _ => true | _ => false) = true) (hi : (P.info? ty).map (·.size) = some n) :
    (loadVar ty ⟨g, o, none⟩).run P w = .ok (.agg (arr n fun q => f (o + q))) w := by
  have hl : (loadCells ⟨g, o, none⟩ ((List.range n).map fun q => f (o + q)).length).run P w = .ok ((List.range n).map fun q => f (o + q)).toArray w :=
    run_loadCells_list (P := P) w ⟨g, o, none⟩ _ (fun j v hv => by
      have hj : j < n := by
        rcases Nat.lt_or_ge j n with h | h
        · exact h
        · rw [List.getElem?_eq_none (by simpa using h)] at hv; cases hv
      rw [addr_add, hg.cell (o + j) (by omega)]
      simpa [hj] using hv)
  cases hq : P.info? ty with
  | none => simp [hq] at hi
  | some i =>
    have hs : i.size = n := by simpa [hq] using hi
    have hagg : (isAgg ty).run P w = .ok true w := by
      unfold isAgg
      rw [Sem.run_bind, run_underlying hu w]
      cases d <;> simp_all
    simp only [List.length_map, List.length_range] at hl
    simp [loadVar, Sem.run_bind, hagg, sizeOf, typeInfo, hq, hs, hl, arr]
theorem wpList_load_seg {ops : Array Oper} {rest : List Oper} {o : Oper} {a : Act} {w : World} {Q : Exit → Act → World → Prop} (hgd : o.guard = none) (ty : TypeId) (x : Operand) (ho : o.op = .load ty x)
    (g off : Nat) (hx : a.eval x = .pointer (some ⟨g, off, none⟩)) (t : TypeId) (N n : Nat) (f : Nat → Value) (d : TypeDesc) (hg : FB w g t N f) (hn : off + n ≤ N)
    (hu : P.underlying ty = some d) (hd : (match d with | .struct _ | .array _ _ => true | _ => false) = true) (hi : (P.info? ty).map (·.size) = some n)
    (h : wpList P ops Q rest (a.put o.dst (.agg (arr n fun q => f (off + q)))) w) : wpList P ops Q (o :: rest) a w :=
  wpList_plain hgd fun _ hK => by
    unfold Oper.wp execOp
    simp only [ho, hx, Instr.loadAt, Instr.sureAddr, Sem.run_bind, Sem.run_pure, Result.andThen_ok, run_loadVar_seg w g off t ty N n f d hg hn hu hd hi]
    exact hK _ _ h
theorem arr_toList (n : Nat) (f : Nat → Value) : (arr n f).toList = (List.range n).map f := by simp [arr]
theorem updR_list (N o n : Nat) (f h : Nat → Value) (hn : o + n ≤ N) : ((arr N f).toList.take o ++ (arr n h).toList ++ (arr N f).toList.drop (o + (arr n h).toList.length)).toArray = arr N (updR f o n h) := by
  apply arr_of
  · simp [arr]; omega
  · intro k hk
    have e : min o N = o := by omega
    simp only [List.getElem?_toArray, arr_toList, List.length_map, List.length_range]
    have l1 : (List.take o ((List.range N).map f)).length = o := by simp [e]
    have l2 : (List.take o ((List.range N).map f) ++ (List.range n).map h).length = o + n := by simp [e]
    by_cases h2 : k < o + n
    · rw [List.getElem?_append_left (by rw [l2]; exact h2)]
      by_cases h1 : k < o
      · rw [List.getElem?_append_left (by rw [l1]; exact h1), List.getElem?_take, if_pos h1]
        unfold updR; rw [if_neg (by omega)]; simp [hk]
      · rw [List.getElem?_append_right (by rw [l1]; omega), l1]
        unfold updR; rw [if_pos (by omega)]
        have : k - o < n := by omega
        simp [this]
    · rw [List.getElem?_append_right (by rw [l2]; omega), l2, List.getElem?_drop]
      unfold updR; rw [if_neg (by omega)]
      rw [show o + n + (k - (o + n)) = k by omega]; simp [hk]
theorem run_storeVar_seg (w : World) (g o : Nat) (t ty : TypeId) (N n : Nat) (f h : Nat → Value) (hg : FB w g t N f) (hn : o + n ≤ N) (hi : (P.info? ty).map (·.size) = some n) (h1 : ∀ q, q < n → (h q).oneCell' = true) :
    (storeVar ty ⟨g, o, none⟩ (.agg (arr n h))).run P w = .ok () (w.setRow g (arr N (updR f o n h))) := by
  have := run_storeCells_at P g o t (arr n h).toList 0 (arr N f) w hg (by simp [arr]; omega) (fun v hv => by
    rw [arr_toList, List.mem_map] at hv
    obtain ⟨q, hq, rfl⟩ := hv
    exact h1 q (by simpa using hq))
  rw [Nat.add_zero, updR_list N o n f h hn] at this
  cases hq : P.info? ty with
  | none => simp [hq] at hi
  | some i =>
    have hs : n = i.size := by simp [hq] at hi; omega
    have hsz : (arr n h).size = n := arr_size n h
    simp [storeVar, sizeOf, typeInfo, hq, Value.cells, ← hs, hsz, this]
theorem setRow_FB {w : World} {g : Nat} {t : TypeId} {N : Nat} {f f' : Nat → Value} (hg : FB w g t N f) : FB (w.setRow g (arr N f')) g t N f' := setRow_heap w g (arr N f) (arr N f') t (0, 0) hg
theorem setRow_touch (w : World) (g : Nat) (cs : Array Value) : Touch g w (w.setRow g cs) := ⟨rfl, rfl, rfl, by simp, fun k _ hne => setRow_other w g k cs hne⟩
theorem wpList_store_seg {ops : Array Oper} {rest : List Oper} {o : Oper} {a : Act} {w : World} {Q : Exit → Act → World → Prop} (hgd : o.guard = none) (ty : TypeId) (x y : Operand) (ho : o.op = .store ty x y)
    (g off : Nat) (t : TypeId) (N n : Nat) (f c : Nat → Value) (hx : a.eval x = .pointer (some ⟨g, off, none⟩)) (hy : a.eval y = .agg (arr n c))
    (hg : FB w g t N f) (hn : off + n ≤ N) (hi : (P.info? ty).map (·.size) = some n) (h1 : ∀ q, q < n → (c q).oneCell' = true)
    (h : ∀ w', FB w' g t N (updR f off n c) → Touch g w w' → w'.heap.size = w.heap.size → wpList P ops Q rest (a.put o.dst undef) w') : wpList P ops Q (o :: rest) a w :=
  wpList_plain hgd fun _ hK => by
    unfold Oper.wp execOp
    simp only [ho, hx, hy, Instr.storeAt, Instr.sureAddr, Sem.run_bind, Sem.run_pure, Result.andThen_ok, run_storeVar_seg w g off t ty N n f c hg hn hi h1]
    exact hK _ _ (h _ (setRow_FB hg) (setRow_touch w g _) (by simp))
theorem wpList_load_all {ops : Array Oper} {rest : List Oper} {o : Oper} {a : Act} {w : World} {Q : Exit → Act → World → Prop} (hgd : o.guard = none) (ty : TypeId) (x : Operand) (ho : o.op = .load ty x)
    (g : Nat) (hx : a.eval x = .pointer (some ⟨g, 0, none⟩)) (t : TypeId) (n : Nat) (f : Nat → Value) (d : TypeDesc) (hg : FB w g t n f)
    (hu : P.underlying ty = some d) (hd : (match d with | .struct _ | .array _ _ => true | _ => false) = true) (hi : (P.info? ty).map (·.size) = some n)
    (h : wpList P ops Q rest (a.put o.dst (.agg (arr n f))) w) : wpList P ops Q (o :: rest) a w := by
  refine wpList_load_seg hgd ty x ho g 0 hx t n n f d hg (by omega) hu hd hi ?_
  rw [arr_congr (g := f) (fun k _ => by rw [Nat.zero_add])]
  exact h
theorem wpList_store_all {ops : Array Oper} {rest : List Oper} {o : Oper} {a : Act} {w : World} {Q : Exit → Act → World → Prop} (hgd : o.guard = none) (ty : TypeId) (x y : Operand) (ho : o.op = .store ty x y)
    (g : Nat) (t : TypeId) (n : Nat) (f c : Nat → Value) (hx : a.eval x = .pointer (some ⟨g, 0, none⟩)) (hy : a.eval y = .agg (arr n c))
    (hg : FB w g t n f) (hi : (P.info? ty).map (·.size) = some n) (h1 : ∀ q, q < n → (c q).oneCell' = true)
    (h : ∀ w', FB w' g t n c → Touch g w w' → w'.heap.size = w.heap.size → wpList P ops Q rest (a.put o.dst undef) w') : wpList P ops Q (o :: rest) a w := by
  refine wpList_store_seg hgd ty x y ho g 0 t n n f c hx hy hg (by omega) hi h1 fun w' hb => h w' (hb.congr fun k hk => ?_)
  unfold updR
  rw [if_pos (by omega), Nat.sub_zero]
theorem result_seg {fn : Func} {p : Tmp} {ty : TypeId} (h : fn.results = #[.cell p ty]) (tmps : Array Value) (w : World) (g : Nat) (t : TypeId) (n : Nat) (f : Nat → Value) (d : TypeDesc)
    (hp : tmps.getD p undef = .pointer (some ⟨g, 0, none⟩)) (hg : FB w g t n f)
    (hu : P.underlying ty = some d) (hd : (match d with | .struct _ | .array _ _ => true | _ => false) = true) (hi : (P.info? ty).map (·.size) = some n) :
    (results fn tmps).run P w = .ok (.agg (arr n f)) w :=
  results_cell_row h tmps w g t (arr n f) (0, 0) d hp hg hu hd (by rw [hi, arr_size])
end
end Go.Proofs.Ytejcijbohnlbgaa
