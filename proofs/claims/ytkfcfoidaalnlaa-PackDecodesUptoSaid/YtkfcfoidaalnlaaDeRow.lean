/- Rows of structs told by a function of the place: read, made, appended. No function of the program. -/
import Derived.Test.YtkfcfoidaalnlaaDeMem
import Derived.Deep.DeepAppendWide
import Derived.Laws.MakeOwn
namespace Go.Proofs.Ytkfcfoidaalnlaa
open Go.ChangeShapes Go.WideShapes Go.ChangeAt Go.RowKit
set_option linter.unusedVariables false
set_option linter.unusedSimpArgs false
theorem wpList_on {P : Program} {w : World} {ops : Array Oper} {rest : List Oper} {o : Oper} {a : Act} {Q : Exit → Act → World → Prop} (hw : Region.wanted o (yielded ops a.tmps) = true)
    (h : ∀ K : Act → World → Prop, (∀ a w, wpList P ops Q rest a w → K a w) → o.wp P a w K Q) : wpList P ops Q (o :: rest) a w :=
  wpList_step fun K hK => by rw [if_pos hw]; exact h K hK
theorem wpList_append_wide {P : Program} (w : World) {ops : Array Oper} {rest : List Oper} {o : Oper} {a : Act} {Q : Exit → Act → World → Prop} (hgd : Region.wanted o (yielded ops a.tmps) = true) (s x : Operand) (t : TypeId)
    (ho : o.op = .call { callee := .builtin .append, args := #[s, x], argTypes := #[t, t] })
    (base : Nat) (e : TypeId) (i : TypeInfo) (z : Value) (size bytes : Nat) (ht : P.underlying t = some (.slice e)) (hi : P.info? e = some i) (hz : i.zero = some z)
    (hsize : i.size = size) (hby : i.bytes = bytes) (hzs : z.cells.size = size) (hsz : 0 < size)
    (v : Value) (n : Nat) (xs : List Value) (hs : a.eval s = v) (hown : w.ownsRow base e size v n xs)
    (B : Nat) (A : Option Addr) (m c : Nat) (news : List Value) (hx : a.eval x = .slice A m c) (hr : Reads w B size A m news) (h1 : ∀ u ∈ news, u.oneCell' = true)
    (h63 : n + m ≤ maxLen) (hbytes : ((n + m) + (n + m) / 4 + 192) * bytes ≤ 281474976710656) (hbase : base ≤ w.heap.size)
    (h : ∀ v' w', w'.ownsRow base e size v' (n + m) (xs ++ news) → w.grownBy w' v.ownBlock → wpList P ops Q rest (a.put o.dst v') w') : wpList P ops Q (o :: rest) a w := by
  rcases A with _ | ad
  · have hm : m = 0 := by
      rcases Nat.eq_zero_or_pos m with h0 | h0
      · exact h0
      · obtain ⟨ad, h, _⟩ := hr.2 h0
        cases h
    subst hm
    have hn : news = [] := List.eq_nil_of_length_eq_zero (by simpa using hr.1)
    subst hn
    refine wpList_on hgd fun _ hK => ?_
    have hrun := run_append_of_nil (P := P) w base t o.type e i size ht hi v n xs hown c
    unfold Oper.wp execOp
    simp only [ho, resolve, invoke, builtin, Sem.run_bind, Sem.run_pure, Result.andThen_ok, List.map_toArray, List.map_cons, List.map_nil, hs, hx, hrun]
    exact hK _ _ (h v w (by simpa using hown) (World.grownBy.refl w _))
  · have hcells : ∀ j u, news[j]? = some u → w.cell? (ad.add j) = some u := by
      intro j u hu
      rcases Nat.eq_zero_or_pos m with h0 | h0
      · subst h0
        have hn : news = [] := List.eq_nil_of_length_eq_zero (by simpa using hr.1)
        subst hn
        simp at hu
      · obtain ⟨ad', h, _, hc⟩ := hr.2 h0
        injection h with h
        subst h
        exact hc j u hu
    exact wpList_on hgd fun _ hK => wp_append_own_wide w s x t ho base e i z size bytes ht hi hz hsize hby hzs hsz v n xs hs hown ad m c news hx hr.1 hcells h1 h63 hbytes hbase fun v' w' h2 h3 _ => hK _ _ (h v' w' h2 h3)

section
variable {P : Program}
theorem run_loadVar_cells (w : World) (g o : Nat) (ty : TypeId) (n : Nat) (f : Nat → Value) (d : TypeDesc) (hg : ∀ k, k < n → w.cell? ⟨g, o + k, none⟩ = some (f k))
    (hu : P.underlying ty = some d) (hd : (match d with | .struct _ | .array _ _ => true | _ => false) = true) (hi : (P.info? ty).map (·.size) = some n) :
    (loadVar ty ⟨g, o, none⟩).run P w = .ok (.agg (arr n f)) w := by
  have hl : (loadCells ⟨g, o, none⟩ ((List.range n).map f).length).run P w = .ok ((List.range n).map f).toArray w :=
    run_loadCells_list (P := P) w ⟨g, o, none⟩ _ (fun j v hv => by
      have hj : j < n := by
        rcases Nat.lt_or_ge j n with h | h
        · exact h
        · rw [List.getElem?_eq_none (by simpa using h)] at hv; cases hv
      rw [addr_add, hg j hj]
      simpa [hj] using hv)
  cases hq : P.info? ty with
  | none => simp [hq] at hi
  | some i =>
    have hs : i.size = n := by simpa [hq] using hi
    have hagg : (isAgg ty).run P w = .ok true w := by
      unfold isAgg
      rw [Sem.run_bind, run_underlying hu w]
      cases d <;> simp_all
    simp only [List.length_map, List.length_range] at hl
    simp [loadVar, Sem.run_bind, hagg, sizeOf, typeInfo, hq, hs, hl, arr]
theorem wpList_load_cells {ops : Array Oper} {rest : List Oper} {o : Oper} {a : Act} {w : World} {Q : Exit → Act → World → Prop} (hgd : Region.wanted o (yielded ops a.tmps) = true) (ty : TypeId) (x : Operand) (ho : o.op = .load ty x)
    (g off : Nat) (hx : a.eval x = .pointer (some ⟨g, off, none⟩)) (n : Nat) (f : Nat → Value) (d : TypeDesc) (hg : ∀ k, k < n → w.cell? ⟨g, off + k, none⟩ = some (f k))
    (hu : P.underlying ty = some d) (hd : (match d with | .struct _ | .array _ _ => true | _ => false) = true) (hi : (P.info? ty).map (·.size) = some n)
    (h : wpList P ops Q rest (a.put o.dst (.agg (arr n f))) w) : wpList P ops Q (o :: rest) a w :=
  wpList_step fun K hK => by
    rw [if_pos hgd]
    unfold Oper.wp execOp
    simp only [ho, hx, Instr.loadAt, Instr.sureAddr, Sem.run_bind, Sem.run_pure, Result.andThen_ok, run_loadVar_cells w g off ty n f d hg hu hd hi]
    exact hK _ _ h
theorem run_slice1 (w : World) (t e : TypeId) (n : Nat) (f z : Nat → Value) (hu : P.underlying t = some (.slice e)) (hz : (P.info? e).bind (fun i => i.zero.map Value.cells) = some (arr n z)) (hs : (P.info? e).map (·.size) = some n) (h0 : 0 < n) (h1 : n ≤ 4096) :
    (Instr.buildSlice t 1 #[(0, .agg (arr n f))]).run P w = .ok (.slice (some ⟨w.heap.size, 0, none⟩) 1 1) (w.alloc (.cells (arr n f) e)) := by
  cases hq : P.info? e with
  | none => simp [hq] at hs
  | some i =>
    have hsz : i.size = n := by simpa [hq] using hs
    cases hzz : i.zero with
    | none => simp [hq, hzz] at hz
    | some zv =>
      have hc : zv.cells = arr n z := by simpa [hq, hzz] using hz
      have hno : ¬ (1 * n > 2 ^ 24) := by omega
      have hn0 : ¬ (1 * n = 0) := by omega
      have hcell : (Array.range (1 * n)).map (fun k => (arr n z)[k % (arr n z).size]!) = arr n z := by
        refine arr_of _ n z (by simp) fun k hk => ?_
        have h2 : k % (arr n z).size = k := by rw [arr_size]; exact Nat.mod_eq_of_lt hk
        have h3 := arr_get n z k hk
        simp only [Nat.one_mul, Array.getElem?_map, Array.getElem?_range, hk, if_true, Option.map_some, h2]
        rw [Array.getElem!_eq_getD]
        simp [Array.getD, arr_size, hk] at h3 ⊢
        exact h3
      have hfill : Instr.fill (fun i => some (i * n, n)) (arr n z) [(0, .agg (arr n f))] = some (arr n f) := by
        unfold Instr.fill
        have hs2 : (Value.agg (arr n f)).cells.size = n := arr_size n f
        have hno2 : ¬ ((decide ((Value.agg (arr n f)).cells.size ≠ n) || decide (0 * n + (Value.agg (arr n f)).cells.size > (arr n z).size)) = true) := by
          rw [hs2, arr_size]; simp
        simp only
        rw [if_neg hno2]
        unfold Instr.fill
        have := fold_seg n (0 * n) n z f
        refine congrArg some (this.trans (arr_congr fun k hk => ?_))
        unfold updR
        rw [if_pos (by omega)]
        congr 1
        omega
      have hno' : ¬ (16777216 < n) := by omega
      have hn0' : ¬ (n = 0) := by omega
      have hcell' : (Array.range n).map (fun k => (arr n z)[k % (arr n z).size]!) = arr n z := by simpa using hcell
      have r1 : ∀ w : World, (sizeOf e).run P w = .ok n w := fun w => by simp [sizeOf, typeInfo, hq, hsz]
      have r2 : ∀ w : World, (zeroValue e).run P w = .ok zv w := fun w => by simp [zeroValue, typeInfo, hq, hzz]
      unfold Instr.buildSlice
      simp only [Sem.run_bind, run_underlying hu, Result.andThen_ok, r1, hno, hn0, if_false, r2, Sem.run_pure, hc, hcell]
      rw [hfill]
      simp [newRow, go_sem]
theorem wp_slice1_seg {o : Oper} {a : Act} {w : World} {K : Act → World → Prop} {Q : Exit → Act → World → Prop} (t e : TypeId) (x : Operand) (ho : o.op = .buildSlice t 1 #[(0, x)])
    (n : Nat) (f z : Nat → Value) (hx : a.eval x = .agg (arr n f)) (hu : P.underlying t = some (.slice e)) (hz : (P.info? e).bind (fun i => i.zero.map Value.cells) = some (arr n z)) (hs : (P.info? e).map (·.size) = some n) (h0 : 0 < n) (h1 : n ≤ 4096)
    (h : ∀ w', FB w' w.heap.size e n f → Below w.heap.size w w' → w'.heap.size = w.heap.size + 1 → K (a.put o.dst (.slice (some ⟨w.heap.size, 0, none⟩) 1 1)) w') : o.wp P a w K Q := by
  have hrun := run_slice1 (P := P) w t e n f z hu hz hs h0 h1
  unfold Oper.wp execOp
  simp only [ho, List.map_toArray, List.map_cons, List.map_nil, hx, Sem.run_bind, hrun, Result.andThen_ok, Sem.run_pure]
  exact h _ (FB.new w e n f) ((Below.refl _ _).alloc (Nat.le_refl _) _) (by simp)
theorem wpList_slice1_seg {ops : Array Oper} {rest : List Oper} {o : Oper} {a : Act} {w : World} {Q : Exit → Act → World → Prop} (hgd : o.guard = none) (t e : TypeId) (x : Operand) (ho : o.op = .buildSlice t 1 #[(0, x)])
    (n : Nat) (f z : Nat → Value) (hx : a.eval x = .agg (arr n f)) (hu : P.underlying t = some (.slice e)) (hz : (P.info? e).bind (fun i => i.zero.map Value.cells) = some (arr n z)) (hs : (P.info? e).map (·.size) = some n) (h0 : 0 < n) (h1 : n ≤ 4096)
    (h : ∀ w', FB w' w.heap.size e n f → Below w.heap.size w w' → w'.heap.size = w.heap.size + 1 → wpList P ops Q rest (a.put o.dst (.slice (some ⟨w.heap.size, 0, none⟩) 1 1)) w') : wpList P ops Q (o :: rest) a w :=
  wpList_plain hgd fun _ hK => wp_slice1_seg t e x ho n f z hx hu hz hs h0 h1 fun w' h2 h3 h4 => hK _ _ (h w' h2 h3 h4)
end
/-! rows of things of one width -/
section
variable {α : Type}
def flat (s : Nat) (f : α → Nat → Value) (l : List α) : List Value := l.flatMap fun a => (arr s (f a)).toList
theorem flat_len (s : Nat) (f : α → Nat → Value) : ∀ l : List α, (flat s f l).length = l.length * s
  | [] => by simp [flat]
  | a :: t => by
    have := flat_len s f t
    unfold flat at this ⊢
    rw [List.flatMap_cons, List.length_append, this, List.length_cons, arr_toList, List.length_map, List.length_range, Nat.succ_mul, Nat.add_comm]
theorem flat_app (s : Nat) (f : α → Nat → Value) (l m : List α) : flat s f (l ++ m) = flat s f l ++ flat s f m := by unfold flat; rw [List.flatMap_append]
theorem flat_get (s : Nat) (f : α → Nat → Value) : ∀ (l : List α) (j : Nat) (a : α), l[j]? = some a → ∀ k, k < s → (flat s f l)[j * s + k]? = some (f a k)
  | [], j, a, h, _, _ => by simp at h
  | b :: t, 0, a, h, k, hk => by
    have e : b = a := by simpa using h
    subst e
    unfold flat
    rw [List.flatMap_cons, Nat.zero_mul, Nat.zero_add, List.getElem?_append_left (by simp [arr]; exact hk), arr_toList]
    simp [hk]
  | b :: t, j + 1, a, h, k, hk => by
    have h2 : t[j]? = some a := by simpa using h
    have hl : (arr s (f b)).toList.length = s := by simp [arr]
    have := flat_get s f t j a h2 k hk
    unfold flat at this ⊢
    rw [List.flatMap_cons, List.getElem?_append_right (by rw [hl, Nat.succ_mul]; omega), hl, show (j + 1) * s + k - s = j * s + k by rw [Nat.succ_mul]; omega]
    exact this
/-- these things lie at an address, one behind the other -/
def RowsAt (w : World) (A : Option Addr) (s : Nat) (f : α → Nat → Value) (l : List α) : Prop :=
  0 < l.length → ∃ b off, A = some ⟨b, off, none⟩ ∧ b < w.heap.size ∧ ∀ j a, l[j]? = some a → ∀ k, k < s → w.cell? ⟨b, off + j * s + k, none⟩ = some (f a k)
theorem cell_same {w w' : World} {b : Nat} (h : w'.heap[b]? = w.heap[b]?) (o : Nat) : w'.cell? ⟨b, o, none⟩ = w.cell? ⟨b, o, none⟩ := World.cell?_of_block h
theorem RowsAt.below {w w' : World} {A : Option Addr} {s : Nat} {f : α → Nat → Value} {l : List α} (h : RowsAt w A s f l) (hb : Below w.heap.size w w') : RowsAt w' A s f l := fun hp => by
  obtain ⟨b, off, e, hl, hc⟩ := h hp
  exact ⟨b, off, e, Nat.lt_of_lt_of_le hl hb.size, fun j a hj k hk => (cell_same (hb.block b hl) _).trans (hc j a hj k hk)⟩
theorem RowsAt.touch {w w' : World} {A : Option Addr} {s g : Nat} {f : α → Nat → Value} {l : List α} (h : RowsAt w A s f l) (hn : ∀ b off, A = some ⟨b, off, none⟩ → b ≠ g) (ht : Touch g w w') : RowsAt w' A s f l := fun hp => by
  obtain ⟨b, off, e, hl, hc⟩ := h hp
  exact ⟨b, off, e, Nat.lt_of_lt_of_le hl ht.size, fun j a hj k hk => (cell_same (ht.block b hl (hn b off e)) _).trans (hc j a hj k hk)⟩
/-- a list of these things that a call owns; e: the elements' type -/
def OwnR (e : TypeId) (s : Nat) (f : α → Nat → Value) (w : World) (base : Nat) (v : Value) (l : List α) : Prop := w.ownsRow base e s v l.length (flat s f l)
theorem OwnR.nil (e : TypeId) (s : Nat) (f : α → Nat → Value) (w : World) (base : Nat) : OwnR e s f w base (.slice none 0 0) [] := ⟨by simp [flat], .inl ⟨rfl, rfl⟩⟩
theorem own_keep {w w' : World} {base size n : Nat} {e : TypeId} {v : Value} {xs : List Value} (h : w.ownsRow base e size v n xs) (k : ∀ b, v.ownBlock = some b → b < w.heap.size → w'.heap[b]? = w.heap[b]?) : w'.ownsRow base e size v n xs := by
  refine ⟨h.1, ?_⟩
  rcases h.2 with h1 | ⟨g, cap, cur, hv, hg, hh, h1⟩
  · exact .inl h1
  · have hgs : g < w.heap.size := by
      rcases Nat.lt_or_ge g w.heap.size with h2 | h2
      · exact h2
      · rw [Array.getElem?_eq_none h2] at hh; cases hh
    exact .inr ⟨g, cap, cur, hv, hg, (k g (by rw [hv]; rfl) hgs).trans hh, h1⟩
theorem OwnR.up {e : TypeId} {s : Nat} {f : α → Nat → Value} {w w' : World} {base : Nat} {v : Value} {l : List α} (h : OwnR e s f w base v l) (hb : Below w.heap.size w w') : OwnR e s f w' base v l := own_keep h fun b _ hlt => hb.block b hlt
theorem OwnR.touch {e : TypeId} {s : Nat} {f : α → Nat → Value} {w w' : World} {base g : Nat} {v : Value} {l : List α} (h : OwnR e s f w base v l) (ht : Touch g w w') (hne : v.ownBlock ≠ some g) : OwnR e s f w' base v l :=
  own_keep h fun b hb hlt => ht.block b hlt fun e => hne (by rw [hb, e])
theorem OwnR.form {e : TypeId} {s : Nat} {f : α → Nat → Value} {w : World} {base : Nat} {v : Value} {l : List α} (h : OwnR e s f w base v l) : ∃ A m c, v = .slice A m c ∧ Hid (m = l.length) ∧ m ≤ c ∧ RowsAt w A s f l ∧ (∀ b off, A = some ⟨b, off, none⟩ → base ≤ b ∧ b < w.heap.size ∧ v.ownBlock = some b) := by
  rcases h.2 with ⟨hv, hn⟩ | ⟨g, cap, cur, hv, hg, hh, hnc, hcm, hcs, hx⟩
  · exact ⟨none, 0, 0, hv, Lib.hid hn.symm, by omega, fun hp => by omega, fun b off e => by cases e⟩
  · have hlt : g < w.heap.size := by
      rcases Nat.lt_or_ge g w.heap.size with h1 | h1
      · exact h1
      · rw [Array.getElem?_eq_none h1] at hh; cases hh
    refine ⟨_, _, cap, hv, Lib.hid rfl, by omega, fun _ => ⟨g, 0, rfl, hlt, fun j a hj k hk => ?_⟩, fun b off e => by injection e with e; injection e with e1; subst e1; exact ⟨hg, hlt, by rw [hv]; rfl⟩⟩
    have hm := flat_get s f l j a hj k hk
    rw [Nat.zero_add, cell_of_row w g (j * s + k) cur _ (0, 0) hh]
    rw [← hx] at hm
    have h2 : (cur.toList.take (l.length * s))[j * s + k]? = some (f a k) := hm
    rw [List.getElem?_take] at h2
    split at h2
    · simpa using h2
    · cases h2
theorem append_row {P : Program} (t e : TypeId) (s bytes : Nat) (f : α → Nat → Value) (z : Nat → Value) (hu : P.underlying t = some (.slice e)) (hinf : (P.info? e).map (fun i => (i.zero.map Value.cells, i.size, i.bytes)) = some (some (arr s z), s, bytes)) (hs0 : 0 < s) (w : World) {ops : Array Oper} {rest : List Oper} {o : Oper} {a : Act} {Q : Exit → Act → World → Prop} (hgd : Region.wanted o (yielded ops a.tmps) = true) (x y : Operand)
    (ho : o.op = .call { callee := .builtin .append, args := #[x, y], argTypes := #[t, t] })
    (base : Nat) (v : Value) (l : List α) (hx : a.eval x = v) (hown : OwnR e s f w base v l)
    (g : Nat) (b : α) (hy : a.eval y = .slice (some ⟨g, 0, none⟩) 1 1) (hg : FB w g e s (f b)) (hone : ∀ k, k < s → (f b k).oneCell' = true)
    (hbytes : ((l.length + 1) + (l.length + 1) / 4 + 192) * bytes ≤ 281474976710656) (hm : l.length + 1 ≤ maxLen) (hbase : base ≤ w.heap.size)
    (h : ∀ v' w', OwnR e s f w' base v' (l ++ [b]) → Below base w w' → w.grownBy w' v.ownBlock → wpList P ops Q rest (a.put o.dst v') w') : wpList P ops Q (o :: rest) a w := by
  cases hq : P.info? e with
  | none => simp [hq] at hinf
  | some i =>
    simp only [hq, Option.map_some, Option.some.injEq, Prod.mk.injEq] at hinf
    obtain ⟨h1, h2, h3⟩ := hinf
    cases hz : i.zero with
    | none => simp [hz] at h1
    | some zv =>
      have hzc : zv.cells = arr s z := by simpa [hz] using h1
      refine wpList_append_wide w hgd x y t ho base e i zv s bytes hu hq hz h2 h3 (by rw [hzc, arr_size]) hs0 v l.length _ hx hown w.heap.size (some ⟨g, 0, none⟩) 1 1 (flat s f [b]) hy ⟨by simp [flat_len], fun _ => ⟨_, rfl, hg.lt, fun j u hj => ?_⟩⟩ (fun u hu => ?_) hm hbytes hbase ?_
      · rw [addr_add, Nat.zero_add]
        have hjs : j < s := by
          rcases Nat.lt_or_ge j s with h4 | h4
          · exact h4
          · rw [List.getElem?_eq_none (by rw [flat_len]; simp; exact h4)] at hj; cases hj
        have := flat_get s f [b] 0 b rfl j hjs
        rw [Nat.zero_mul, Nat.zero_add, hj] at this
        rw [hg.cell j hjs, this]
      · simp only [flat, List.flatMap_cons, List.flatMap_nil, List.append_nil, arr_toList, List.mem_map, List.mem_range] at hu
        obtain ⟨k, hk, rfl⟩ := hu
        exact hone k hk
      · intro v' w' h4 h5
        refine h v' w' ?_ ((Below.refl base w).grown h5 hbase fun k hk => (World.ownsRow.lt hown k hk).1) h5
        unfold OwnR
        rw [flat_app, List.length_append]
        exact h4
theorem step_append_row {P : Program} (t e : TypeId) (s bytes : Nat) (f : α → Nat → Value) (z : Nat → Value) (hu : P.underlying t = some (.slice e)) (hinf : (P.info? e).map (fun i => (i.zero.map Value.cells, i.size, i.bytes)) = some (some (arr s z), s, bytes)) (hs0 : 0 < s) (w : World) {ops : Array Oper} {o : Oper} {a : Act} {K : Act → World → Prop} {Q : Exit → Act → World → Prop} {E : Prop} (hgd : o.guard = none) (x y : Operand)
    (ho : o.op = .call { callee := .builtin .append, args := #[x, y], argTypes := #[t, t] })
    (base : Nat) (v : Value) (l : List α) (hx : a.eval x = v) (hown : OwnR e s f w base v l)
    (g : Nat) (b : α) (hy : a.eval y = .slice (some ⟨g, 0, none⟩) 1 1) (hg : FB w g e s (f b)) (hone : ∀ k, k < s → (f b k).oneCell' = true)
    (hbytes : ((l.length + 1) + (l.length + 1) / 4 + 192) * bytes ≤ 281474976710656) (hm : l.length + 1 ≤ maxLen) (hbase : base ≤ w.heap.size)
    (h : ∀ v' w', OwnR e s f w' base v' (l ++ [b]) → Below base w w' → w.grownBy w' v.ownBlock → K (a.put o.dst v') w') : if Region.wanted o (yielded ops a.tmps) = true then Oper.wp P o a w K Q else E := by
  have hw : Region.wanted o (yielded ops a.tmps) = true := by simp [Region.wanted, hgd]
  rw [if_pos hw]
  cases hq : P.info? e with
  | none => simp [hq] at hinf
  | some i =>
    simp only [hq, Option.map_some, Option.some.injEq, Prod.mk.injEq] at hinf
    obtain ⟨h1, h2, h3⟩ := hinf
    cases hz : i.zero with
    | none => simp [hz] at h1
    | some zv =>
      have hzc : zv.cells = arr s z := by simpa [hz] using h1
      refine wp_append_own_wide w x y t ho base e i zv s bytes hu hq hz h2 h3 (by rw [hzc, arr_size]) hs0 v l.length _ hx hown ⟨g, 0, none⟩ 1 1 (flat s f [b]) hy (by simp [flat_len]) (fun j u hj => ?_) (fun u hu => ?_) hm hbytes hbase ?_
      · rw [addr_add, Nat.zero_add]
        have hjs : j < s := by
          rcases Nat.lt_or_ge j s with h4 | h4
          · exact h4
          · rw [List.getElem?_eq_none (by rw [flat_len]; simp; exact h4)] at hj; cases hj
        have := flat_get s f [b] 0 b rfl j hjs
        rw [Nat.zero_mul, Nat.zero_add, hj] at this
        rw [hg.cell j hjs, this]
      · simp only [flat, List.flatMap_cons, List.flatMap_nil, List.append_nil, arr_toList, List.mem_map, List.mem_range] at hu
        obtain ⟨k, hk, rfl⟩ := hu
        exact hone k hk
      · intro v' w' h4 h5 _
        refine h v' w' ?_ ((Below.refl base w).grown h5 hbase fun k hk => (World.ownsRow.lt hown k hk).1) h5
        unfold OwnR
        rw [flat_app, List.length_append]
        exact h4
end
end Go.Proofs.Ytkfcfoidaalnlaa
