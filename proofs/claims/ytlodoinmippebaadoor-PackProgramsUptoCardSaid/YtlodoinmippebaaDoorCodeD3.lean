/- Package code: Decode. -/
import Derived.Test.YtlodoinmippebaaDoorCodeDD
import Derived.Test.YtlodoinmippebaaDoorDraw
import Derived.Test.YtlodoinmippebaaDoorCodeW
namespace Go.Proofs.YtlodoinmippebaaDoor
open Go.ChangeShapes Go.WideShapes Go.ChangeAt Go.RowKit
open Cod Bits
set_option linter.unusedVariables false
set_option linter.unusedSimpArgs false

/-- a list of instructions of the call's own -/
def OwnI (w : World) (base : Nat) (v : Value) (L : List Ins) : Prop := w.ownsRow base 71 8 v L.length (L.flatMap Ins.cells)
theorem flat_lenC (L : List Ins) : (L.flatMap Ins.cells).length = L.length * 8 := by
  induction L with
  | nil => rfl
  | cons i t ih => rw [List.flatMap_cons, List.length_append, ih, List.length_cons]; simp [Ins.cells]; omega
theorem ins_info : (Tryd.prog.info? 71).map (fun i => (i.zero, i.size, i.bytes)) = some (some (.agg (ins8 0 false false 0 0 0 0 0)), 8, 56) := by kernel_rfl
theorem make_ins (k : Nat) (hk : k ≤ 4096) (w : World) : (Instr.makeSlice 31 (.int .i64 0) (.int .i64 k)).run Tryd.prog w =
    .ok (.slice (some ⟨w.heap.size, 0, none⟩) 0 k) (w.alloc (.cells (madeCells (ins8 0 false false 0 0 0 0 0) (k * 8)) 71)) := by
  obtain ⟨i0, hi, hz0, hz1, hz2⟩ := info_parts ins_info
  have h := run_make (P := Tryd.prog) w 31 71 i0 _ Tryd.underlying31 hi hz0 .i64 .i64 0 k (by omega) (by omega) (by rw [hz2]; omega) (by omega)
  rw [h, hz1]
  rfl
theorem ownI_made (w : World) (k : Nat) (hk : k ≤ 4096) : OwnI (w.alloc (.cells (madeCells (ins8 0 false false 0 0 0 0 0) (k * 8)) 71)) w.heap.size (.slice (some ⟨w.heap.size, 0, none⟩) 0 k) [] :=
  World.ownsRow_made (base := w.heap.size) (e := 71) (size := 8) w _ k (Nat.le_refl _) (by unfold maxLen; omega) (by simp [madeCells])
/-- what Decode answers of bytes -/
def Decoded (w : World) (l : List Int) (e : Ending) (w' : World) : Prop :=
  ∃ v, e = .returned (.tuple #[v, .int .i64 (D l 0 0).2.1, .int .i64 (D l 0 0).1]) ∧ OwnI w' w.heap.size v (D l 0 0).2.2 ∧ Below w.heap.size w w'
def leftAt (g : Nat) (w : World) : Nat := match w.cell? ⟨g, 0, none⟩ with | some (.slice _ n _) => n | _ => 0
/-- what Decode holds of memory ahead of a round -/
structure DS (w0 : World) (L : List Int) (done : List Ins) (A : Option Addr) (n c : Nat) (L' : List Int) (u : Nat) (bg : Int) (v : Value) (w : World) : Prop where
  list : Blk w w0.heap.size 31 #[v]
  at_ : Blk w (w0.heap.size + 1) 3 #[.int .i64 0]
  err : Blk w (w0.heap.size + 1 + 1) 34 #[.int .i64 0]
  rd : Blk w (w0.heap.size + 1 + 1 + 1) 112 (rd3 A n c u bg)
  left : Left w w0.heap.size A n c L'
  own : OwnI w (w0.heap.size + 1 + 1 + 1 + 1) v done
  below : Below w0.heap.size w0 w
  tabs : Tabs w
  base4 : 3 ≤ w0.heap.size
  le : done.length ≤ 4096
  ul : u ≤ 2 * done.length
  eq : D L 0 0 = joinD done (D L' done.length u)
theorem ds_start (w : World) (A : Option Addr) (n c : Nat) (L : List Int) (hl : Left w w.heap.size A n c L) (ht : Tabs w) (k : Nat) (hk : k ≤ 4096) :
    DS w L [] A n c L 0 0 (.slice (some ⟨w.heap.size + 1 + 1 + 1 + 1, 0, none⟩) 0 k) (((((w.alloc (.cells #[.slice (some ⟨w.heap.size + 1 + 1 + 1 + 1, 0, none⟩) 0 k] 31)).alloc (.cells #[.int .i64 0] 3)).alloc (.cells #[.int .i64 0] 34)).alloc (.cells (rd3 A n c 0 0) 112)).alloc (.cells (madeCells (ins8 0 false false 0 0 0 0 0) (k * 8)) 71)) := by
  have hB := (below_box4 w (.cells #[.slice (some ⟨w.heap.size + 1 + 1 + 1 + 1, 0, none⟩) 0 k] 31) (.cells #[.int .i64 0] 3) (.cells #[.int .i64 0] 34) (.cells (rd3 A n c 0 0) 112)).alloc (by simp; omega) (.cells (madeCells (ins8 0 false false 0 0 0 0 0) (k * 8)) 71)
  refine ⟨((((Blk.new w _ _).alloc _).alloc _).alloc _).alloc _, (((blk_new2 w _ _ _).alloc _).alloc _).alloc _, ((blk_new3 w _ _ _ _).alloc _).alloc _, (blk_new4 w _ _ _ _ _).alloc _, hl.below hB (Nat.le_refl _), ?_, hB, ht.below hB, ht.lt, by simp, by simp, ?_⟩
  · have h := ownI_made ((((w.alloc (.cells #[.slice (some ⟨w.heap.size + 1 + 1 + 1 + 1, 0, none⟩) 0 k] 31)).alloc (.cells #[.int .i64 0] 3)).alloc (.cells #[.int .i64 0] 34)).alloc (.cells (rd3 A n c 0 0) 112)) k hk
    simpa using h
  · have h := D_norm L 0 0
    exact (joinD_nil _ h.1 h.2).symm
theorem ownI_keep {w w' : World} {base base' : Nat} {v : Value} {L : List Ins} (h : OwnI w base v L) (hb : base' ≤ base) (k : ∀ b, base ≤ b → b < w.heap.size → w'.heap[b]? = w.heap[b]?) : OwnI w' base' v L := by
  refine ⟨h.1, ?_⟩
  rcases h.2 with h1 | ⟨g, cap, cur, hv, hg, hh, h1⟩
  · exact .inl h1
  · have hgs : g < w.heap.size := by
      rcases Nat.lt_or_ge g w.heap.size with h2 | h2
      · exact h2
      · rw [Array.getElem?_eq_none h2] at hh; cases hh
    exact .inr ⟨g, cap, cur, hv, by omega, (k g hg hgs).trans hh, h1⟩
theorem OwnI.form {w : World} {base : Nat} {v : Value} {L : List Ins} (h : OwnI w base v L) : ∃ A c, v = .slice A L.length c := by
  rcases h.2 with ⟨hv, hn⟩ | ⟨g, cap, cur, hv, _⟩
  · exact ⟨none, 0, by rw [hv, hn]⟩
  · exact ⟨_, _, hv⟩
theorem ds_begun {w0 : World} {L : List Int} {done : List Ins} {A : Option Addr} {n c : Nat} {L' : List Int} {u : Nat} {bg : Int} {v : Value} {w : World} (h : DS w0 L done A n c L' u bg v w) : DS w0 L done A n c L' u u v (w.setCell ⟨w0.heap.size + 1 + 1 + 1, 2, none⟩ (.int .i64 u)) := by
  have hrd : Blk (w.setCell ⟨w0.heap.size + 1 + 1 + 1, 2, none⟩ (.int .i64 u)) (w0.heap.size + 1 + 1 + 1) 112 (rd3 A n c u u) := h.rd.set_ 2 _
  have hk : But (w0.heap.size + 1 + 1 + 1) w (w.setCell ⟨w0.heap.size + 1 + 1 + 1, 2, none⟩ (.int .i64 u)) := (But.refl _ _).setCell 2 _
  have hs := h.below.size
  exact ⟨hk.blk h.list (by omega), hk.blk h.at_ (by omega), hk.blk h.err (by omega), hrd, h.left.but hk (by omega) hs, ownI_keep h.own (Nat.le_refl _) (fun b hb _ => Below.heap_setCell w _ _ b (by simp only; omega)), h.below.setCell (by show w0.heap.size ≤ w0.heap.size + 1 + 1 + 1; omega) _, hk.tabs h.tabs (by have := h.base4; omega), h.base4, h.le, h.ul, h.eq⟩
/-- the ends of Decode: three cells hold what is answered -/
structure DE (w0 : World) (v : Value) (at_ er : Int) (dn : List Ins) (w : World) : Prop where
  list : Blk w w0.heap.size 31 #[v]
  at_ : Blk w (w0.heap.size + 1) 3 #[.int .i64 at_]
  err : Blk w (w0.heap.size + 1 + 1) 34 #[.int .i64 er]
  own : OwnI w w0.heap.size v dn
  below : Below w0.heap.size w0 w
theorem DE.set {w0 w : World} {v : Value} {a0 e0 : Int} {dn : List Ins} {v0 : Value} (h0 : Blk w w0.heap.size 31 #[v0]) (h1 : Blk w (w0.heap.size + 1) 3 #[.int .i64 a0]) (h2 : Blk w (w0.heap.size + 1 + 1) 34 #[.int .i64 e0])
    (own : OwnI w (w0.heap.size + 1 + 1 + 1 + 1) v dn) (hb : Below w0.heap.size w0 w) (a e : Int) :
    DE w0 v a e dn (((w.setCell ⟨w0.heap.size, 0, none⟩ v).setCell ⟨w0.heap.size + 1, 0, none⟩ (.int .i64 a)).setCell ⟨w0.heap.size + 1 + 1, 0, none⟩ (.int .i64 e)) :=
  ⟨((h0.set_ 0 v).far (p := ⟨w0.heap.size + 1, 0, none⟩) (by simp only; omega) _).far (p := ⟨w0.heap.size + 1 + 1, 0, none⟩) (by simp only; omega) _,
    ((h1.far (p := ⟨w0.heap.size, 0, none⟩) (by simp only; omega) _).set_ 0 _).far (p := ⟨w0.heap.size + 1 + 1, 0, none⟩) (by simp only; omega) _,
    ((h2.far (p := ⟨w0.heap.size, 0, none⟩) (by simp only; omega) _).far (p := ⟨w0.heap.size + 1, 0, none⟩) (by simp only; omega) _).set_ 0 _,
    ownI_keep own (by omega) (fun b hb _ => ((Below.heap_setCell _ _ _ b (by simp only; omega)).trans (Below.heap_setCell _ _ _ b (by simp only; omega))).trans (Below.heap_setCell _ _ _ b (by simp only; omega))),
    ((hb.setCell (p := ⟨w0.heap.size, 0, none⟩) (Nat.le_refl _) _).setCell (p := ⟨w0.heap.size + 1, 0, none⟩) (by simp only; omega) _).setCell (p := ⟨w0.heap.size + 1 + 1, 0, none⟩) (by simp only; omega) _⟩
theorem DE.seterr {w0 w : World} {v : Value} {a e : Int} {dn : List Ins} (h : DE w0 v a e dn w) (e' : Int) : DE w0 v a e' dn (w.setCell ⟨w0.heap.size + 1 + 1, 0, none⟩ (.int .i64 e')) :=
  ⟨h.list.far (p := ⟨w0.heap.size + 1 + 1, 0, none⟩) (by simp only; omega) _, h.at_.far (p := ⟨w0.heap.size + 1 + 1, 0, none⟩) (by simp only; omega) _, h.err.set_ 0 _,
    ⟨h.own.1, by
      rcases h.own.2 with h1 | ⟨g, cap, cur, hv, hg, hh, h1⟩
      · exact .inl h1
      · refine .inr ⟨g, cap, cur, hv, hg, (Below.heap_setCell _ _ _ g ?_).trans hh, h1⟩
        intro hge
        have h2 := h.err
        unfold Blk at h2
        simp only at hge
        rw [hge] at hh
        rw [hh] at h2
        exact absurd h2 (by simp)⟩, h.below.setCell (p := ⟨w0.heap.size + 1 + 1, 0, none⟩) (by simp only; omega) _⟩
theorem DE.nil {w0 w : World} {v0 : Value} {a0 e0 : Int} (h0 : Blk w w0.heap.size 31 #[v0]) (h1 : Blk w (w0.heap.size + 1) 3 #[.int .i64 a0]) (h2 : Blk w (w0.heap.size + 1 + 1) 34 #[.int .i64 e0])
    (hb : Below w0.heap.size w0 w) (a e : Int) :
    DE w0 (.slice none 0 0) a e [] (((w.setCell ⟨w0.heap.size + 1 + 1, 0, none⟩ (.int .i64 e)).setCell ⟨w0.heap.size, 0, none⟩ (.slice none 0 0)).setCell ⟨w0.heap.size + 1, 0, none⟩ (.int .i64 a)) :=
  ⟨((h0.far (p := ⟨w0.heap.size + 1 + 1, 0, none⟩) (by simp only; omega) _).set_ 0 _).far (p := ⟨w0.heap.size + 1, 0, none⟩) (by simp only; omega) _,
    ((h1.far (p := ⟨w0.heap.size + 1 + 1, 0, none⟩) (by simp only; omega) _).far (p := ⟨w0.heap.size, 0, none⟩) (by simp only; omega) _).set_ 0 _,
    ((h2.set_ 0 _).far (p := ⟨w0.heap.size, 0, none⟩) (by simp only; omega) _).far (p := ⟨w0.heap.size + 1, 0, none⟩) (by simp only; omega) _,
    ⟨rfl, .inl ⟨rfl, rfl⟩⟩,
    ((hb.setCell (p := ⟨w0.heap.size + 1 + 1, 0, none⟩) (by simp only; omega) _).setCell (p := ⟨w0.heap.size, 0, none⟩) (Nat.le_refl _) _).setCell (p := ⟨w0.heap.size + 1, 0, none⟩) (by simp only; omega) _⟩
abbrev dclo (s : Nat) : List Deferred := [{ target := .fn (.func 62) #[.pointer (some ⟨s + 1 + 1, 0, none⟩), .pointer (some ⟨s + 1 + 1 + 1, 0, none⟩), .pointer (some ⟨s, 0, none⟩), .pointer (some ⟨s + 1, 0, none⟩)], args := #[] }]
/-- Decode gives up -/
theorem dec_panic (w W : World) (L : List Int) (v0 : Value) (a0 e0 bg x : Int) (at_ : Nat) (A : Option Addr) (n c : Nat) (u : Int) (tm : Array Value) (h2 : tm[2]?.getD undef = .pointer (some ⟨w.heap.size, 0, none⟩)) (h3 : tm[3]?.getD undef = .pointer (some ⟨w.heap.size + 1, 0, none⟩)) (h4 : tm[4]?.getD undef = .pointer (some ⟨w.heap.size + 1 + 1, 0, none⟩))
    (b0 : Blk W w.heap.size 31 #[v0]) (b1 : Blk W (w.heap.size + 1) 3 #[.int .i64 a0]) (b2 : Blk W (w.heap.size + 1 + 1) 34 #[.int .i64 e0]) (b3 : Blk W (w.heap.size + 1 + 1 + 1) 112 (rd3 A n c u bg))
    (hB : Below w.heap.size w W) (hx : x ≠ 0) (hbg : bg = at_) (hD : D L 0 0 = (x, at_, [])) :
    bodyPostD Tryd.prog Tryd.f34 (Decoded w L) (.panic [{ v := .iface 34 (.int .i64 x), recovered := false }]) { tmps := tm, defers := dclo w.heap.size } W := by
  refine leaves_cons (f := 62) (args := #[.pointer (some ⟨w.heap.size + 1 + 1, 0, none⟩), .pointer (some ⟨w.heap.size + 1 + 1 + 1, 0, none⟩), .pointer (some ⟨w.heap.size, 0, none⟩), .pointer (some ⟨w.heap.size + 1, 0, none⟩)]) (by simp) (by simp [go_sem]) ?_
  refine (catch_panicking (w.heap.size + 1 + 1) w.heap.size (w.heap.size + 1) (w.heap.size + 1 + 1 + 1) x e0 a0 bg hx v0 [] _ (b2.cell 0) (b2.frozen 0) (b0.cell 0) (b0.frozen 0) (b1.cell 0) (b1.frozen 0) (b3.cell 2) (by omega) (by omega) (by omega) (by omega) (by omega)).mono ?_
  rintro e u' w'' ⟨rfl, rfl, rfl⟩
  have hd2 := DE.nil b0 b1 b2 hB bg x
  generalize (((W.setCell ⟨w.heap.size + 1 + 1, 0, none⟩ (.int .i64 x)).setCell ⟨w.heap.size, 0, none⟩ (.slice none 0 0)).setCell ⟨w.heap.size + 1, 0, none⟩ (.int .i64 bg)) = W3 at *
  have r0 : W3.cell? ⟨w.heap.size, 0, none⟩ = some (.slice none 0 0) := hd2.list.cell 0
  have r1 : W3.cell? ⟨w.heap.size + 1, 0, none⟩ = some (.int .i64 bg) := hd2.at_.cell 0
  have r2 : W3.cell? ⟨w.heap.size + 1 + 1, 0, none⟩ = some (.int .i64 x) := hd2.err.cell 0
  have hfin : Decoded w L (.returned (.tuple #[.slice none 0 0, .int .i64 bg, .int .i64 x])) W3 := ⟨.slice none 0 0, by rw [hD, hbg], by rw [hD]; exact hd2.own, hd2.below⟩
  have HFIN := Lib.hid hfin
  clear hfin hd2 b0 b1 b2 b3 hD hB
  simp [Leaves, settle, results, Tryd.results34, go_sem, h2, h3, h4, r0, r1, r2]
  exact HFIN.out
theorem leaves_congr {P : Program} {fn : Func} {t1 t2 : Array Value} {R : Ending → World → Prop} (h : ∀ w, (results fn t1).run P w = (results fn t2).run P w) : ∀ (ds : List Deferred) (u : FrameMode) (w : World), Leaves P fn t1 R ds u w → Leaves P fn t2 R ds u w := by
  intro ds
  induction ds with
  | nil =>
    intro u w hl
    cases u with
    | run => exact hl
    | returning => obtain ⟨v, h1, h2⟩ := hl; exact ⟨v, (h w) ▸ h1, h2⟩
    | panicking c => exact hl
  | cons d ds ih =>
    intro u w hl
    obtain ⟨h0, fv, cap, f, args, h1, h2, h3⟩ := hl
    refine ⟨h0, fv, cap, f, args, h1, h2, fun c cs hu => ?_⟩
    obtain ⟨e, u', w', fr, hr, hrest⟩ := h3 c cs hu
    refine ⟨e, u', w', fr, ?_, hrest⟩
    cases e with
    | returned v => exact ih _ _ hr
    | panicked ch => exact ih _ _ hr
    | outgrown => exact hr
theorem results_19 (a : Act) (v : Value) (w : World) : (results Tryd.f34 (a.put (some 19) v).tmps).run Tryd.prog w = (results Tryd.f34 a.tmps).run Tryd.prog w := by
  simp [results, Tryd.results34, Act.put, Array.getElem?_setIfInBounds]
theorem bodyD_put {R : Ending → World → Prop} (c : List PanicEntry) (a : Act) (v : Value) (w : World) (h : bodyPostD Tryd.prog Tryd.f34 R (.panic c) (a.put (some 19) v) w) : bodyPostD Tryd.prog Tryd.f34 R (.panic c) a w :=
  leaves_congr (results_19 a v) _ _ _ h
theorem reads_ins {w : World} {B gs : Nat} {t : TypeId} {i : Ins} (h : Blk w gs t i.arr) (hB : gs < B) : Reads w B 8 (some ⟨gs, 0, none⟩) 1 i.cells := by
  refine ⟨rfl, fun _ => ⟨_, rfl, hB, fun j u hu => ?_⟩⟩
  have e : ({ block := gs, off := 0 } : Addr).add j = ⟨gs, j, none⟩ := by
    unfold Addr.add; split
    · subst_vars; rfl
    · simp
  rw [e, h.cell]
  have e2 : i.arr = i.cells.toArray := rfl
  rw [e2]
  simpa using hu
theorem Below.andBut {B g : Nat} {a w w2 : World} (h : Below B a w) (k : But g w w2) (hg : B ≤ g) (hs : B ≤ w.heap.size) : Below B a w2 :=
  ⟨k.os.trans h.os, k.tape.trans h.tape, k.output.trans h.output, Nat.le_trans h.size k.size, fun j hj => (k.block j (by omega) (by omega)).trans (h.block j hj)⟩
theorem D_err2 {L L' : List Int} {done : List Ins} {u : Nat} (heq : D L 0 0 = joinD done (D L' done.length u)) (h0 : L'.length ≠ 0) (h1 : done.length ≠ 4096) (hE : (insD L').1 ≠ 0) : D L 0 0 = ((insD L').1, u, []) := by
  rw [heq, D_err h0 h1 u hE, joinD, if_neg hE]
theorem D_step2 {L L' : List Int} {done : List Ins} {u : Nat} (heq : D L 0 0 = joinD done (D L' done.length u)) (h0 : L'.length ≠ 0) (h1 : done.length ≠ 4096) (hE : (insD L').1 = 0) :
    D L 0 0 = joinD (done ++ [(insD L').2.1]) (D (L'.drop (8 * (insD L').2.2)) (done ++ [(insD L').2.1]).length (u + (insD L').2.2)) := by
  rw [heq, D_step h0 h1 u hE, joinD_join, List.length_append, List.length_cons, List.length_nil]
theorem append_ins {ops : Array Oper} {o : Oper} {a : Act} {K : Act → World → Prop} {Q : Exit → Act → World → Prop} {E : Prop} (hgd : o.guard = none) (s x : Operand)
    (ho : o.op = .call { callee := .builtin .append, args := #[s, x], argTypes := #[31, 31] }) (base : Nat) (v : Value) (done : List Ins) (w : World) (hs : a.eval s = v) (hown : OwnI w base v done) (i : Ins) (gs c : Nat) (t : TypeId) (hx : a.eval x = .slice (some ⟨gs, 0, none⟩) 1 c) (hb : Blk w gs t i.arr) (hl : done.length ≤ 4096) (hbase : base ≤ w.heap.size)
    (h : ∀ v' w', OwnI w' base v' (done ++ [i]) → Below base w w' → K (a.put o.dst v') w') :
    if Region.wanted o (yielded ops a.tmps) = true then Oper.wp Tryd.prog o a w K Q else E := by
  obtain ⟨i0, hi, hz0, hz1, hz2⟩ := info_parts ins_info
  refine step_append_any (P := Tryd.prog) w hgd s x 31 ho base 71 i0 _ 8 56 Tryd.underlying31 hi hz0 hz1 hz2 rfl (by decide) v done.length _ hs hown w.heap.size (some ⟨gs, 0, none⟩) 1 c i.cells hx (reads_ins hb hb.lt) (fun u hu => ?_) (by unfold maxLen; omega) (by omega) hbase ?_
  · simp only [Ins.cells, List.mem_cons, List.not_mem_nil, or_false] at hu
    rcases hu with rfl | rfl | rfl | rfl | rfl | rfl | rfl | rfl <;> rfl
  · intro v' w' h1 h2 _
    refine h v' w' ?_ ((Below.refl base w).grown h2 hbase fun k hk => (World.ownsRow.lt hown k hk).1)
    unfold OwnI
    rw [List.length_append, List.flatMap_append]
    simpa using h1
theorem Left.keep {w w' : World} {B : Nat} {A : Option Addr} {n c : Nat} {L : List Int} (h : Left w B A n c L) (hb : Below B w w') : Left w' B A n c L :=
  ⟨h.1, h.2.1, fun hn => by
    obtain ⟨hc, b, off, e, hl, hx⟩ := h.2.2 hn
    exact ⟨hc, b, off, e, hl, fun i hi => (hb.cell (p := ⟨b, off + i, none⟩) hl).trans (hx i hi)⟩⟩
theorem Tabs.keep {B : Nat} {w w' : World} (h : Tabs w) (hb : Below B w w') (h4 : 3 ≤ B) : Tabs w' := by
  refine ⟨Nat.le_trans h.lt hb.size, fun i hi => ?_, fun i hi => ?_, fun i hi => ?_⟩
  · rw [hb.cell (p := ⟨0, i, none⟩) (by show 0 < _; omega)]; exact h.sizes i hi
  · rw [hb.cell (p := ⟨1, i, none⟩) (by show 1 < _; omega)]; exact h.joins i hi
  · rw [hb.cell (p := ⟨2, i, none⟩) (by show 2 < _; omega)]; exact h.jumps i hi
theorem insD_two_le {l : List Int} (h : (insD l).1 = 0) : (insD l).2.2 ≤ 2 := by
  rcases insD_two h with ⟨h1, _⟩ | ⟨h1, _⟩ <;> omega
theorem ds_round {w0 w4 : World} {L L' : List Int} {done : List Ins} {I : Ins} {A3 : Option Addr} {n3 c3 u : Nat} {u3 bg : Int} {v0 v' : Value} (b0 : Blk w4 w0.heap.size 31 #[v0]) (b1 : Blk w4 (w0.heap.size + 1) 3 #[.int .i64 0]) (b2 : Blk w4 (w0.heap.size + 1 + 1) 34 #[.int .i64 0]) (b3 : Blk w4 (w0.heap.size + 1 + 1 + 1) 112 (rd3 A3 n3 c3 u3 bg))
    (hl : Left w4 w0.heap.size A3 n3 c3 (L'.drop (8 * (insD L').2.2))) (hown : OwnI w4 (w0.heap.size + 1 + 1 + 1 + 1) v' (done ++ [I])) (hB : Below w0.heap.size w0 w4) (ht : Tabs w4) (h4 : 3 ≤ w0.heap.size) (hle : done.length ≤ 4096) (h96 : done.length ≠ 4096) (hul : u ≤ 2 * done.length) (hE : (insD L').1 = 0) (hI : (insD L').2.1 = I) (h0 : L'.length ≠ 0) (hu3 : u3 = u + (insD L').2.2) (heq : D L 0 0 = joinD done (D L' done.length u)) :
    DS w0 L (done ++ [I]) A3 n3 c3 (L'.drop (8 * (insD L').2.2)) (u + (insD L').2.2) bg v' (w4.setCell ⟨w0.heap.size, 0, none⟩ v') := by
  have hk : Below w0.heap.size w4 (w4.setCell ⟨w0.heap.size, 0, none⟩ v') := (Below.refl _ w4).setCell (p := ⟨w0.heap.size, 0, none⟩) (Nat.le_refl _) _
  have h2 := insD_two_le hE
  refine ⟨b0.set_ 0 v', b1.far (p := ⟨w0.heap.size, 0, none⟩) (by simp only; omega) _, b2.far (p := ⟨w0.heap.size, 0, none⟩) (by simp only; omega) _, ?_, hl.keep hk, ownI_keep hown (Nat.le_refl _) (fun b hb _ => Below.heap_setCell w4 _ _ b (by simp only; omega)), hB.trans hk, ht.keep hk h4, h4, ?_, ?_, ?_⟩
  · have h := b3.far (p := ⟨w0.heap.size, 0, none⟩) (by simp only; omega) v'
    rw [hu3] at h
    exact h
  · rw [List.length_append, List.length_cons, List.length_nil]; omega
  · rw [List.length_append, List.length_cons, List.length_nil]; omega
  · rw [← hI]; exact D_step2 heq h0 h96 hE
set_option maxRecDepth 100000 in
set_option maxHeartbeats 4000000 in
theorem decode_a (w : World) (A : Option Addr) (n c : Nat) (L : List Int) (hl : Left w w.heap.size A n c L) (hn : n ≤ 281474976710656) (ht : Tabs w) (hk : n / 8 ≤ 4096) :
    Calls Tryd.prog 34 #[.slice A n c] w (Decoded w L) := by
  have hmf : ∀ (fn : Fn) (first cap : Array Value) (w : World), (Instr.makeFunc fn first cap).run Tryd.prog w = .ok (.func fn first cap) w := fun _ _ _ _ => rfl
  have hmk : ∀ w, (Instr.makeSlice 31 (.int .i64 0) (.int .i64 ((n : Int) / 8))).run Tryd.prog w = .ok (.slice (some ⟨w.heap.size, 0, none⟩) 0 (n / 8)) (w.alloc (.cells (madeCells (ins8 0 false false 0 0 0 0 0) (n / 8 * 8)) 71)) := fun w => by
    rw [show (n : Int) / 8 = ((n / 8 : Nat) : Int) by omega]; exact make_ins (n / 8) hk w
  have hki : (n : Int) / 8 ≤ 4096 := by omega
  have HL := Lib.hid hl
  have HT := Lib.hid ht
  clear hl ht
  go_enter_defers Tryd.func34, Tryd.ntmps34
  go_wp2_with fail
  have HDS := Lib.hid (ds_start w A n c L HL.out HT.out (n / 8) hk)
  clear hmk hmf
  go_loopw [14] (fun _ wr => ∃ done A n c L' u bg v, DS w L done A n c L' u bg v wr) (fun _ wr => leftAt (w.heap.size + 1 + 1 + 1) wr)
  case atStart => exact ⟨_, _, _, _, _, _, _, _, HDS.out⟩
  case round =>
    clear HDS
    obtain ⟨done, A', n', c', L', u, bg, v, hds⟩ := hrel
    have HD := Lib.hid hds
    clear hds
    go_wp2_with fail
    go_at_call 64
    refine (more_any _ _ _ _ _ _ _ HD.out.rd).mono ?_
    rintro e w1 ⟨rfl, rfl⟩
    have hd1 := ds_begun HD.out
    generalize (wr.setCell ⟨w.heap.size + 1 + 1 + 1, 2, none⟩ (.int .i64 (u : Int))) = W1 at *
    obtain ⟨A2, c2, rfl⟩ := hd1.own.form
    have HD1 := Lib.hid hd1
    obtain ⟨l0, k0⟩ : W1.cell? ⟨w.heap.size, 0, none⟩ = some (.slice A2 done.length c2) ∧ W1.frozen? ⟨w.heap.size, 0, none⟩ = false := ⟨hd1.list.cell 0, hd1.list.frozen 0⟩
    obtain ⟨l1, k1⟩ : W1.cell? ⟨w.heap.size + 1, 0, none⟩ = some (.int .i64 0) ∧ W1.frozen? ⟨w.heap.size + 1, 0, none⟩ = false := ⟨hd1.at_.cell 0, hd1.at_.frozen 0⟩
    obtain ⟨l2, k2⟩ : W1.cell? ⟨w.heap.size + 1 + 1, 0, none⟩ = some (.int .i64 0) ∧ W1.frozen? ⟨w.heap.size + 1 + 1, 0, none⟩ = false := ⟨hd1.err.cell 0, hd1.err.frozen 0⟩
    clear hd1
    by_cases hn' : 0 < n'
    · have hdt : decide (0 < n') = true := decide_eq_true hn'
      rw [hdt]
      by_cases h96 : done.length = 4096
      · have hd96 : decide ((done.length : Int) < 4096) = false := decide_eq_false (by omega)
        have heq := HD1.out.eq
        rw [h96, D_many (by rw [HD1.out.left.1]; omega)] at heq
        have hDL : D L 0 0 = (25, u, []) := heq
        go_wp2_with fail
        go_at_call 65
        refine (need_no _ _).mono ?_
        rintro e w2 ⟨rfl, rfl⟩
        go_wp2_with fail
        exact dec_panic w _ L _ _ _ _ _ u _ _ _ _ _ rfl rfl rfl HD1.out.list HD1.out.at_ HD1.out.err HD1.out.rd HD1.out.below (by decide) rfl hDL
      have hd96 : decide ((done.length : Int) < 4096) = true := decide_eq_true (by have := HD1.out.le; omega)
      go_wp2_with fail
      go_at_call 65
      refine (need_yes _ _).mono ?_
      rintro e w2 ⟨rfl, rfl⟩
      go_wp2_with fail
      have hul := HD1.out.ul
      have HINS := Lib.hid (ins_any (w.heap.size + 1 + 1 + 1) w.heap.size A' n' c' L' u u W1.drew HD1.out.rd (by omega) hn' HD1.out.left ⟨by omega, by have := HD1.out.le; omega⟩ ⟨HD1.out.tabs.lt, HD1.out.tabs.sizes, HD1.out.tabs.joins, HD1.out.tabs.jumps⟩ (by have := HD1.out.base4; omega))
      generalize hI : (insD L').2.1 = I at HINS
      have HI := Lib.hid hI
      clear hI
      obtain ⟨iop, inar, ireg, isize, idst, isrc, ioff, iimm⟩ := I
      simp only [Ins.arr] at HINS
      have hle := HD1.out.le
      refine wp_region_last (n := 4) (S := fun w' => w'.cell? ⟨w.heap.size, 0, none⟩ = some (.slice A2 done.length c2)) (by kernel_rfl) (by kernel_rfl) (by kernel_rfl) (by kernel_rfl) rfl l0 (fun hHeld => ?_)
      refine wpAnyH_take (i := 0) (oi := _) (v := .slice A2 done.length c2) rfl (by kernel_rfl) (by kernel_rfl) (by kernel_rfl) (fun cc aa ww hh => bodyD_put cc aa _ ww hh) (Or.inl ⟨by rfl, ?_⟩) hHeld ?_
      · intro w hSw
        go_simp
      try simp only [Act.put, List.setIfInBounds_toArray, List.set_cons_zero, List.set_cons_succ]
      clear hHeld
      refine wpAnyH_ready (rs := [1]) (by kernel_rfl) (by simp) ?_
      refine AllReadyH.cons rfl (fun K hK => ?_) AllReadyH.nil
      go_simp
      go_at_call 66
      refine HINS.out.mono ?_
      rintro e w2 ⟨rfl, hK2, A3, n3, c3, u3, hrd3, hz⟩
      have hbs := HD1.out.below.size
      have b0 := hK2.blk HD1.out.list.drew (by omega)
      have b1 := hK2.blk HD1.out.at_.drew (by omega)
      have b2 := hK2.blk HD1.out.err.drew (by omega)
      have hB2 := Below.andBut (below_drew1 HD1.out.below) hK2 (by omega) hbs
      by_cases hE : (insD L').1 = 0
      · rw [insEnd_zero hE]
        obtain ⟨hu3, hlf3⟩ := hz hE
        have htab2 := hK2.tabs ⟨HD1.out.tabs.lt, HD1.out.tabs.sizes, HD1.out.tabs.joins, HD1.out.tabs.jumps⟩ (by have := HD1.out.base4; omega)
        have how2 : OwnI w2 (w.heap.size + 1 + 1 + 1 + 1) (.slice A2 done.length c2) done := ownI_keep HD1.out.own (Nat.le_refl _) (fun bb hb1 hb2 => hK2.block bb hb2 (by omega))
        have hw2s : w.heap.size + 1 + 1 + 1 + 1 ≤ w2.heap.size := by have := hrd3.lt; omega
        go_wp2_with fail
        refine hK.out _ _ (b0.cell 0) (fun hHeld => ?_)
        clear hK K hHeld
        try simp only [Act.put, List.setIfInBounds_toArray, List.set_cons_zero, List.set_cons_succ]
        refine wpAnyH_ready (rs := [2]) (by kernel_rfl) (by simp) ?_
        refine AllReadyH.cons rfl (fun K hK => ?_) AllReadyH.nil
        go_simp
        refine hK.out _ _ ((b0.alloc _).cell 0) (fun hHeld => ?_)
        clear hK K hHeld
        try simp only [Act.put, List.setIfInBounds_toArray, List.set_cons_zero, List.set_cons_succ]
        have hsrc : Blk (w2.alloc (.cells #[.int .i64 iop, .bool inar, .bool ireg, .int .i64 isize, .int .i64 idst, .int .i64 isrc, .int .i64 ioff, .int .i64 iimm] 71)) w2.heap.size 71 (Ins.arr ⟨iop, inar, ireg, isize, idst, isrc, ioff, iimm⟩) := Blk.new w2 _ _
        have d0 := b0.alloc (.cells #[.int .i64 iop, .bool inar, .bool ireg, .int .i64 isize, .int .i64 idst, .int .i64 isrc, .int .i64 ioff, .int .i64 iimm] 71)
        have d1 := b1.alloc (.cells #[.int .i64 iop, .bool inar, .bool ireg, .int .i64 isize, .int .i64 idst, .int .i64 isrc, .int .i64 ioff, .int .i64 iimm] 71)
        have d2 := b2.alloc (.cells #[.int .i64 iop, .bool inar, .bool ireg, .int .i64 isize, .int .i64 idst, .int .i64 isrc, .int .i64 ioff, .int .i64 iimm] 71)
        have d3 := hrd3.alloc (.cells #[.int .i64 iop, .bool inar, .bool ireg, .int .i64 isize, .int .i64 idst, .int .i64 isrc, .int .i64 ioff, .int .i64 iimm] 71)
        have hk3 := below_box w2 (.cells #[.int .i64 iop, .bool inar, .bool ireg, .int .i64 isize, .int .i64 idst, .int .i64 isrc, .int .i64 ioff, .int .i64 iimm] 71)
        have hw3s : w.heap.size + 1 + 1 + 1 + 1 ≤ (w2.alloc (.cells #[.int .i64 iop, .bool inar, .bool ireg, .int .i64 isize, .int .i64 idst, .int .i64 isrc, .int .i64 ioff, .int .i64 iimm] 71)).heap.size := by simp; omega
        have how3 := ownI_keep how2 (Nat.le_refl _) (fun bb _ hb2 => hk3.block bb hb2)
        have hlf := hlf3.keep (hk3.mono (by omega))
        have htb := htab2.keep hk3 (by have := HD1.out.base4; omega)
        have hB3 := hB2.trans (hk3.mono (by omega))
        clear b0 b1 b2 hrd3 hk3 how2 hlf3 htab2 hB2 hK2 hz
        generalize (w2.alloc (.cells #[.int .i64 iop, .bool inar, .bool ireg, .int .i64 isize, .int .i64 idst, .int .i64 isrc, .int .i64 ioff, .int .i64 iimm] 71)) = w3 at *
        generalize w2.heap.size = gs at *
        refine wpAnyH_ready (rs := [3]) (by kernel_rfl) (by simp) ?_
        refine AllReadyH.cons rfl (fun K hK => ?_) AllReadyH.nil
        refine append_ins rfl (.tmp 19) (.tmp 21) rfl (w.heap.size + 1 + 1 + 1 + 1) (.slice A2 done.length c2) done w3 rfl how3 ⟨iop, inar, ireg, isize, idst, isrc, ioff, iimm⟩ gs 1 _ rfl hsrc hle hw3s ?_
        intro v' w4 how4 hB4
        have e0 := d0.below hB4 (by omega)
        have e1 := d1.below hB4 (by omega)
        have e2 := d2.below hB4 (by omega)
        have e3 := d3.below hB4 (by omega)
        have hB5 := hB4.mono (show w.heap.size ≤ w.heap.size + 1 + 1 + 1 + 1 by omega)
        refine hK.out _ _ (e0.cell 0) (fun hHeld => ?_)
        clear hK K hHeld
        try simp only [Act.put, List.setIfInBounds_toArray, List.set_cons_zero, List.set_cons_succ]
        refine wpAnyH_done (by kernel_rfl) ?_ _
        obtain ⟨A4, c4, rfl⟩ := how4.form
        have HDS := Lib.hid (ds_round e0 e1 e2 e3 (hlf.keep hB5) how4 (hB3.trans hB5) (htb.keep hB5 HD1.out.base4) HD1.out.base4 hle h96 hul hE HI.out (by rw [HD1.out.left.1]; omega) hu3 HD1.out.eq)
        have m0 : w4.cell? ⟨w.heap.size, 0, none⟩ = some (.slice A2 done.length c2) := e0.cell 0
        have m1 : w4.frozen? ⟨w.heap.size, 0, none⟩ = false := e0.frozen 0
        clear d0 d1 d2 d3 how3 hlf htb hB3 hB4 hB5 e0 e1 e2 e3 how4 hsrc
        unfold Ahead
        refine wpOp_step rfl fun K' hK' => ?_
        go_simp
        refine hK' _ _ ?_
        have hlen : (done ++ [(⟨iop, inar, ireg, isize, idst, isrc, ioff, iimm⟩ : Ins)]).length = done.length + 1 := by simp
        rw [hlen] at HDS
        clear hK'
        simp only [Exit.inBlock]
        go_roundw
        case rel => exact ⟨_, _, _, _, _, _, _, _, _, ⟨_, _, _, _, _, _, _, _, HDS.out⟩, rfl⟩
        case measure =>
          have g1 : leftAt (w.heap.size + 1 + 1 + 1) wr = n' := by unfold leftAt; rw [HD.out.rd.cell 0]; rfl
          have g2 : leftAt (w.heap.size + 1 + 1 + 1) (w4.setCell ⟨w.heap.size, 0, none⟩ (.slice A4 (done.length + 1) c4)) = n3 := by unfold leftAt; rw [HDS.out.rd.cell 0]; rfl
          have g3 := HDS.out.left.1
          have g4 := insD_len L' hE
          have g5 := HD.out.left.1
          rw [List.length_drop] at g3
          rw [g1, g2]
          omega
      · rw [insEnd_pos hE]
        have hDL := D_err2 HD1.out.eq (by rw [HD1.out.left.1]; omega) h96 hE
        exact dec_panic w w2 L _ _ _ _ _ u _ _ _ _ _ rfl rfl rfl b0 b1 b2 hrd3 hB2 hE rfl hDL
    · have hdf : decide (0 < n') = false := decide_eq_false hn'
      rw [hdf]
      go_wp2_with fail
      have hde := DE.set (v := .slice A2 done.length c2) HD1.out.list HD1.out.at_ HD1.out.err HD1.out.own HD1.out.below 0 0
      generalize (((W1.setCell ⟨w.heap.size, 0, none⟩ (.slice A2 done.length c2)).setCell ⟨w.heap.size + 1, 0, none⟩ (.int .i64 0)).setCell ⟨w.heap.size + 1 + 1, 0, none⟩ (.int .i64 0)) = W2 at *
      have hL0 : L' = [] := List.length_eq_zero_iff.1 (by have := HD1.out.left.1; omega)
      have heq := HD1.out.eq
      rw [hL0, D_nil] at heq
      have hDL : D L 0 0 = (0, 0, done) := by rw [heq]; simp [joinD]
      refine leaves_cons (f := 62) (args := #[.pointer (some ⟨w.heap.size + 1 + 1, 0, none⟩), .pointer (some ⟨w.heap.size + 1 + 1 + 1, 0, none⟩), .pointer (some ⟨w.heap.size, 0, none⟩), .pointer (some ⟨w.heap.size + 1, 0, none⟩)]) (by simp) (by simp [go_sem]) ?_
      refine (catch_idle (w.heap.size + 1 + 1) w.heap.size (w.heap.size + 1) (w.heap.size + 1 + 1 + 1) 0 _ (hde.err.cell 0) (hde.err.frozen 0)).mono ?_
      rintro e u' w'' ⟨rfl, rfl, rfl⟩
      have hd2 := hde.seterr 0
      generalize (W2.setCell ⟨w.heap.size + 1 + 1, 0, none⟩ (.int .i64 0)) = W3 at *
      have r0 : W3.cell? ⟨w.heap.size, 0, none⟩ = some (.slice A2 done.length c2) := hd2.list.cell 0
      have r1 : W3.cell? ⟨w.heap.size + 1, 0, none⟩ = some (.int .i64 0) := hd2.at_.cell 0
      have r2 : W3.cell? ⟨w.heap.size + 1 + 1, 0, none⟩ = some (.int .i64 0) := hd2.err.cell 0
      have hfin : Decoded w L (.returned (.tuple #[.slice A2 done.length c2, .int .i64 0, .int .i64 0])) W3 := ⟨.slice A2 done.length c2, by rw [hDL]; rfl, by rw [hDL]; exact hd2.own, hd2.below⟩
      have HFIN := Lib.hid hfin
      clear hfin hd2 hde l0 k0 l1 k1 l2 k2 heq hDL hL0
      simp [Leaves, settle, results, Tryd.results34, go_sem, r0, r1, r2]
      exact HFIN.out
end Go.Proofs.YtlodoinmippebaaDoor
