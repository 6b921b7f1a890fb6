/- Lists of bounds that a call owns: appending. -/
import Derived.Test.YtejcijbohnlbgaaZE
import Derived.Deep.DeepAppendWide
namespace Go.Proofs.Ytejcijbohnlbgaa
open Go.ChangeShapes Go.WideShapes Go.ChangeAt Go.RowKit
open Zon
set_option linter.unusedVariables false
set_option maxRecDepth 100000
theorem block_of_add (a : Addr) (n : Nat) : (a.add n).block = a.block := by unfold Addr.add; split <;> rfl
theorem add_of_add (a : Addr) (i j : Nat) : (a.add i).add j = a.add (i + j) := by
  unfold Addr.add
  by_cases hi : i = 0 <;> by_cases hj : j = 0 <;> simp [hi, hj, Nat.add_assoc]

def Reads (w : World) (B size : Nat) (A : Option Addr) (n : Nat) (xs : List Value) : Prop :=
  xs.length = n * size ∧ (0 < n → ∃ ad, A = some ad ∧ ad.block < B ∧ ∀ j u, xs[j]? = some u → w.cell? (ad.add j) = some u)

section
variable {w w' : World} {B B' size n : Nat} {A : Option Addr} {xs : List Value}
theorem Reads.none_ : Reads w B size A 0 [] := ⟨by simp, fun h => absurd h (by omega)⟩
theorem Reads.at_ {k : Nat} (h : Reads w B 1 A n xs) (hk : k < n) : ∃ ad u, A = some ad ∧ ad.block < B ∧ xs[k]? = some u ∧ w.cell? (ad.add k) = some u := by
  obtain ⟨ad, e, hb, hc⟩ := h.2 (by omega)
  have hl : k < xs.length := by have := h.1; omega
  exact ⟨ad, xs[k], e, hb, List.getElem?_eq_getElem hl, hc k _ (List.getElem?_eq_getElem hl)⟩
theorem Reads.keep (h : Reads w B size A n xs) (hk : ∀ p : Addr, p.block < B → w'.cell? p = w.cell? p) : Reads w' B size A n xs :=
  ⟨h.1, fun hn => by
    obtain ⟨ad, e, hb, hc⟩ := h.2 hn
    exact ⟨ad, e, hb, fun j u hu => (hk _ (by rw [block_of_add]; exact hb)).trans (hc j u hu)⟩⟩
theorem Reads.more (h : Reads w B size A n xs) (hB : B ≤ B') : Reads w B' size A n xs :=
  ⟨h.1, fun hn => by
    obtain ⟨ad, e, hb, hc⟩ := h.2 hn
    exact ⟨ad, e, by omega, hc⟩⟩
theorem Reads.below (h : Reads w B size A n xs) (hb : Below B w w') : Reads w' B size A n xs := h.keep fun _ hp => hb.cell hp
theorem Reads.drew (h : Reads w B size A n xs) : Reads w.drew B size A n xs := h
theorem Reads.drewN (h : Reads w B size A n xs) (k : Nat) : Reads (w.drewN k) B size A n xs := h
theorem Reads.alloc (h : Reads w B size A n xs) (hB : B ≤ w.heap.size) (o : Obj) : Reads (w.alloc o) B size A n xs := h.keep fun p hp => World.cell?_alloc_lt w o p (by omega)
theorem Reads.setCell (h : Reads w B size A n xs) {p : Addr} (hB : B ≤ p.block) (u : Value) : Reads (w.setCell p u) B size A n xs :=
  h.keep fun q hq => World.cell?_setCell_other w p q u (fun e => by subst e; omega)
theorem Reads.grown (h : Reads w B size A n xs) {row : Option Nat} (hg : w.grownBy w' row) (hB : B ≤ w.heap.size) (hr : ∀ g, row = some g → B ≤ g) : Reads w' B size A n xs :=
  h.keep fun p hp => World.cell?_of_block (hg.block p.block (by omega) (fun e => by have := hr _ e.symm; omega))
theorem Reads.cut (h : Reads w B size A n xs) {k cap : Nat} (hk : k ≤ n) (hc : n ≤ cap) :
    Reads w B size (if cap = k then A else A.map (·.add (k * size))) (n - k) (xs.drop (k * size)) := by
  refine ⟨by rw [List.length_drop, h.1, Nat.sub_mul], fun hn => ?_⟩
  obtain ⟨ad, rfl, hb, hcell⟩ := h.2 (by omega)
  rw [if_neg (by omega)]
  refine ⟨ad.add (k * size), rfl, by rw [block_of_add]; exact hb, fun j u hu => ?_⟩
  rw [add_of_add]
  exact hcell _ u (by rw [← hu, List.getElem?_drop])
theorem Reads.of_own {base : Nat} {e : TypeId} {c : Nat} (h : w.ownsRow base e size (.slice A n c) n xs) : Reads w w.heap.size size A n xs := by
  refine ⟨h.1, fun hn => ?_⟩
  obtain ⟨g, cap, hv, _, hlt⟩ := h.form hn
  have hA : A = some ⟨g, 0, none⟩ := by injection hv
  subst hA
  exact ⟨_, rfl, hlt, h.cells (g := g) rfl⟩
end

theorem run_append_of_nil {P : Program} (w : World) (base : Nat) (t ty e : TypeId) (i : TypeInfo) (size : Nat) (ht : P.underlying t = some (.slice e)) (hi : P.info? e = some i)
    (v : Value) (n : Nat) (xs : List Value) (hown : w.ownsRow base e size v n xs) (c : Nat) : (Builtin.append_ #[t, t] ty #[v, .slice none 0 c]).run P w = .ok v w := by
  rcases hown.2 with ⟨rfl, rfl⟩ | ⟨g, cap, cur, rfl, _, _, hnc, _⟩
  · simp [Builtin.append_, run_underlying ht, sizeOf, typeInfo, hi, Builtin.lenOf, Builtin.firstCells]
  · simp [Builtin.append_, run_underlying ht, sizeOf, typeInfo, hi, Builtin.lenOf, Builtin.firstCells, hnc, storeCells]

theorem wpList_on {P : Program} {w : World} {ops : Array Oper} {rest : List Oper} {o : Oper} {a : Act} {Q : Exit → Act → World → Prop} (hw : Region.wanted o (yielded ops a.tmps) = true)
    (h : ∀ K : Act → World → Prop, (∀ a w, wpList P ops Q rest a w → K a w) → o.wp P a w K Q) : wpList P ops Q (o :: rest) a w :=
  wpList_step fun K hK => by rw [if_pos hw]; exact h K hK
theorem wpList_append_wide {P : Program} (w : World) {ops : Array Oper} {rest : List Oper} {o : Oper} {a : Act} {Q : Exit → Act → World → Prop} (hgd : Region.wanted o (yielded ops a.tmps) = true) (s x : Operand) (t : TypeId)
    (ho : o.op = .call { callee := .builtin .append, args := #[s, x], argTypes := #[t, t] })
    (base : Nat) (e : TypeId) (i : TypeInfo) (z : Value) (size bytes : Nat) (ht : P.underlying t = some (.slice e)) (hi : P.info? e = some i) (hz : i.zero = some z)
    (hsize : i.size = size) (hby : i.bytes = bytes) (hzs : z.cells.size = size) (hsz : 0 < size)
    (v : Value) (n : Nat) (xs : List Value) (hs : a.eval s = v) (hown : w.ownsRow base e size v n xs)
    (B : Nat) (A : Option Addr) (m c : Nat) (news : List Value) (hx : a.eval x = .slice A m c) (hr : Reads w B size A m news) (h1 : ∀ u ∈ news, u.oneCell' = true)
    (h63 : n + m ≤ maxLen) (hbytes : ((n + m) + (n + m) / 4 + 192) * bytes ≤ 281474976710656) (hbase : base ≤ w.heap.size)
    (h : ∀ v' w', w'.ownsRow base e size v' (n + m) (xs ++ news) → w.grownBy w' v.ownBlock → wpList P ops Q rest (a.put o.dst v') w') : wpList P ops Q (o :: rest) a w := by
  rcases A with _ | ad
  · have hm : m = 0 := by
      rcases Nat.eq_zero_or_pos m with h0 | h0
      · exact h0
      · obtain ⟨ad, h, _⟩ := hr.2 h0
        cases h
    subst hm
    have hn : news = [] := List.eq_nil_of_length_eq_zero (by simpa using hr.1)
    subst hn
    refine wpList_on hgd fun _ hK => ?_
    have hrun := run_append_of_nil (P := P) w base t o.type e i size ht hi v n xs hown c
    unfold Oper.wp execOp
    simp only [ho, resolve, invoke, builtin, Sem.run_bind, Sem.run_pure, Result.andThen_ok, List.map_toArray, List.map_cons, List.map_nil, hs, hx, hrun]
    exact hK _ _ (h v w (by simpa using hown) (World.grownBy.refl w _))
  · have hcells : ∀ j u, news[j]? = some u → w.cell? (ad.add j) = some u := by
      intro j u hu
      rcases Nat.eq_zero_or_pos m with h0 | h0
      · subst h0
        have hn : news = [] := List.eq_nil_of_length_eq_zero (by simpa using hr.1)
        subst hn
        simp at hu
      · obtain ⟨ad', h, _, hc⟩ := hr.2 h0
        injection h with h
        subst h
        exact hc j u hu
    exact wpList_on hgd fun _ hK => wp_append_own_wide w s x t ho base e i z size bytes ht hi hz hsize hby hzs hsz v n xs hs hown ad m c news hx hr.1 hcells h1 h63 hbytes hbase fun v' w' h2 h3 _ => hK _ _ (h v' w' h2 h3)

def Zon.Con.cells (x : Con) : List Value := [.int .i64 x.i, .int .i64 x.j, .int .i64 x.c]
theorem cflat_len : ∀ L : List Con, (L.flatMap Con.cells).length = L.length * 3
  | [] => rfl
  | a :: t => by rw [List.flatMap_cons, List.length_append, cflat_len t, List.length_cons]; show 3 + _ = _; omega
theorem cflat_get : ∀ (L : List Con) (j : Nat) (i : Con), L[j]? = some i → ∀ k, k < 3 → (L.flatMap Con.cells)[j * 3 + k]? = i.cells[k]?
  | [], j, i, h, _, _ => by simp at h
  | a :: t, 0, i, h, k, hk => by
    have e : a = i := by simpa using h
    subst e
    rw [List.flatMap_cons, List.getElem?_append_left (by simp [Con.cells]; omega)]
    simp
  | a :: t, j + 1, i, h, k, hk => by
    have h2 : t[j]? = some i := by simpa using h
    have hl : a.cells.length = 3 := rfl
    rw [List.flatMap_cons, List.getElem?_append_right (by omega), hl, show (j + 1) * 3 + k - 3 = j * 3 + k by omega]
    exact cflat_get t j i h2 k hk
theorem consAt_cells {w : World} {g o : Nat} {L : List Con} (hlt : g < w.heap.size) (h : ∀ m v, (L.flatMap Con.cells)[m]? = some v → w.cell? ⟨g, o + m, none⟩ = some v) : ConsAt w (some ⟨g, o, none⟩) L := fun _ =>
  ⟨g, o, rfl, hlt, fun j i hi => by
    have k := cflat_get L j i hi
    refine ⟨?_, ?_, ?_⟩
    · exact h _ _ (k 0 (by decide))
    · rw [show o + j * 3 + 1 = o + (j * 3 + 1) by omega]; exact h _ _ (k 1 (by decide))
    · rw [show o + j * 3 + 2 = o + (j * 3 + 2) by omega]; exact h _ _ (k 2 (by decide))⟩
theorem ConsAt.reads {w : World} {A : Option Addr} {M : List Con} (h : ConsAt w A M) : Reads w w.heap.size 3 A M.length (M.flatMap Con.cells) := by
  refine ⟨cflat_len M, fun hn => ?_⟩
  obtain ⟨b, off, rfl, hb, hc⟩ := h hn
  refine ⟨_, rfl, hb, fun j u hu => ?_⟩
  have hj : j < M.length * 3 := by
    rcases Nat.lt_or_ge j (M.length * 3) with h1 | h1
    · exact h1
    · rw [List.getElem?_eq_none (by rw [cflat_len]; exact h1)] at hu; cases hu
  obtain ⟨i, hi⟩ : ∃ i, M[j / 3]? = some i := ⟨M[j / 3]'(by omega), List.getElem?_eq_getElem _⟩
  have hf := cflat_get M (j / 3) i hi (j % 3) (by omega)
  rw [show j / 3 * 3 + j % 3 = j by omega, hu] at hf
  obtain ⟨x0, x1, x2⟩ := hc (j / 3) i hi
  rw [addr_add, show off + j = off + j / 3 * 3 + j % 3 by omega]
  have hr : j % 3 = 0 ∨ j % 3 = 1 ∨ j % 3 = 2 := by omega
  rcases hr with e | e | e <;> rw [e] at hf ⊢
  · rw [hf]; exact x0
  · rw [hf]; exact x1
  · rw [hf]; exact x2
/-- bounds that a call owns; e: the elements' type -/
def OwnC (e : TypeId) (w : World) (base : Nat) (v : Value) (L : List Con) : Prop := w.ownsRow base e 3 v L.length (L.flatMap Con.cells)
theorem OwnC.form {e : TypeId} {w : World} {base : Nat} {v : Value} {L : List Con} (h : OwnC e w base v L) : ∃ A c, v = .slice A L.length c ∧ L.length ≤ c := by
  rcases h.2 with ⟨hv, hn⟩ | ⟨g, cap, cur, hv, _, _, h1, _⟩
  · exact ⟨none, 0, by rw [hv, hn], by omega⟩
  · exact ⟨_, _, hv, by omega⟩
theorem OwnC.form' {e : TypeId} {w : World} {base : Nat} {v : Value} {L : List Con} (h : OwnC e w base v L) : ∃ A m c, v = .slice A m c ∧ Hid (L.length = m) := by
  obtain ⟨A, c, hv, _⟩ := h.form
  exact ⟨A, _, c, hv, rfl⟩
theorem OwnC.consAt {e : TypeId} {w : World} {base : Nat} {v : Value} {L : List Con} (h : OwnC e w base v L) : ∃ A c, v = .slice A L.length c ∧ L.length ≤ c ∧ ConsAt w A L ∧ (∀ b off, A = some ⟨b, off, none⟩ → base ≤ b) := by
  rcases h.2 with ⟨hv, hn⟩ | ⟨g, cap, cur, hv, hg, hh, hnc, hcm, hcs, hx⟩
  · exact ⟨none, 0, by rw [hv, hn], by omega, fun hp => by omega, fun b off e => by cases e⟩
  · have hlt : g < w.heap.size := by
      rcases Nat.lt_or_ge g w.heap.size with h1 | h1
      · exact h1
      · rw [Array.getElem?_eq_none h1] at hh; cases hh
    refine ⟨_, cap, hv, by omega, consAt_cells hlt fun m u hm => ?_, fun b off e => by injection e with e; injection e with e1; omega⟩
    rw [Nat.zero_add, cell_of_row w g m cur _ (0, 0) hh]
    rw [← hx] at hm
    have h2 : (cur.toList.take (L.length * 3))[m]? = some u := hm
    rw [List.getElem?_take] at h2
    split at h2
    · simpa using h2
    · cases h2
theorem own_keep {w w' : World} {base size n : Nat} {e : TypeId} {v : Value} {xs : List Value} (h : w.ownsRow base e size v n xs) (k : ∀ b, base ≤ b → b < w.heap.size → w'.heap[b]? = w.heap[b]?) : w'.ownsRow base e size v n xs := by
  refine ⟨h.1, ?_⟩
  rcases h.2 with h1 | ⟨g, cap, cur, hv, hg, hh, h1⟩
  · exact .inl h1
  · have hgs : g < w.heap.size := by
      rcases Nat.lt_or_ge g w.heap.size with h2 | h2
      · exact h2
      · rw [Array.getElem?_eq_none h2] at hh; cases hh
    exact .inr ⟨g, cap, cur, hv, hg, (k g hg hgs).trans hh, h1⟩
theorem OwnC.up {e : TypeId} {w w' : World} {base : Nat} {v : Value} {L : List Con} (h : OwnC e w base v L) (hb : Below w.heap.size w w') : OwnC e w' base v L := own_keep h fun b _ hlt => hb.block b hlt
theorem OwnC.nil (e : TypeId) (w : World) (base : Nat) : OwnC e w base (.slice none 0 0) [] := ⟨rfl, .inl ⟨rfl, rfl⟩⟩
theorem append_con {P : Program} (t e : TypeId) (hu : P.underlying t = some (.slice e)) (hinf : (P.info? e).map (fun i => (i.zero, i.size, i.bytes)) = some (some (.agg #[.int .i64 0, .int .i64 0, .int .i64 0]), 3, 24)) (w : World) {ops : Array Oper} {rest : List Oper} {o : Oper} {a : Act} {Q : Exit → Act → World → Prop} (hgd : Region.wanted o (yielded ops a.tmps) = true) (s x : Operand)
    (ho : o.op = .call { callee := .builtin .append, args := #[s, x], argTypes := #[t, t] })
    (base : Nat) (v : Value) (L : List Con) (hs : a.eval s = v) (hown : OwnC e w base v L)
    (A : Option Addr) (m c : Nat) (M : List Con) (hx : a.eval x = .slice A m c) (hm : M.length = m) (hr : ConsAt w A M)
    (hlen : L.length + m ≤ 8000000000000) (hbase : base ≤ w.heap.size)
    (h : ∀ v' w', OwnC e w' base v' (L ++ M) → Below base w w' → wpList P ops Q rest (a.put o.dst v') w') : wpList P ops Q (o :: rest) a w := by
  subst hm
  obtain ⟨i0, hi, hz0, hz1, hz2⟩ := info_parts hinf
  refine wpList_append_wide w hgd s x t ho base e i0 _ 3 24 hu hi hz0 hz1 hz2 rfl (by decide) v L.length _ hs hown w.heap.size A M.length c _ hx hr.reads
    (fun u hu => ?_) (by unfold maxLen; omega) (by omega) hbase ?_
  · simp only [List.mem_flatMap, Con.cells, List.mem_cons, List.not_mem_nil, or_false] at hu
    obtain ⟨z, _, hz⟩ := hu
    rcases hz with rfl | rfl | rfl <;> rfl
  · intro v' w' h1 h2
    refine h v' w' ?_ ((Below.refl base w).grown h2 hbase fun k hk => (World.ownsRow.lt hown k hk).1)
    unfold OwnC
    rw [List.length_append, List.flatMap_append]
    exact h1
theorem con_info : (Try.prog.info? 45).map (fun i => (i.zero, i.size, i.bytes)) = some (some (.agg #[.int .i64 0, .int .i64 0, .int .i64 0]), 3, 24) := by kernel_rfl
theorem rcon_info : (Try.prog.info? 99).map (fun i => (i.zero, i.size, i.bytes)) = some (some (.agg #[.int .i64 0, .int .i64 0, .int .i64 0]), 3, 24) := by kernel_rfl
theorem cons_one (w : World) (e : TypeId) (x y z : Int) : ConsAt (w.alloc (.cells #[.int .i64 x, .int .i64 y, .int .i64 z] e)) (some ⟨w.heap.size, 0, none⟩) [⟨x, y, z⟩] := by
  refine consAt_cells (by simp) fun m v hm => ?_
  rw [Nat.zero_add, cell_of_row _ w.heap.size m _ e (0, 0) (heap_alloc_new w _)]
  simpa [Con.cells] using hm
end Go.Proofs.Ytejcijbohnlbgaa
