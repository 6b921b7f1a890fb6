/- Texts in one: CodeD1 CodeD2. -/
import Derived.Test.YtlodoinmippebaaDoorCodeGG
import Derived.Recover
import Derived.Laws.Pointers
/- Package code: caught, and the deferred closure of Decode. -/
namespace Go.Proofs.YtlodoinmippebaaDoor
open Go.ChangeShapes Go.WideShapes Go.ChangeAt Go.RowKit
open Cod Bits
set_option linter.unusedVariables false
set_option linter.unusedSimpArgs false

theorem caught_nil (w : World) : Calls Tryd.prog 63 #[.nilIface] w fun e w' => e = .returned (.int .i64 0) ∧ w = w' := by
  go_enter Tryd.func63, Tryd.ntmps63
  go_wp2_with fail
  go_ret
  exact ⟨rfl, rfl⟩
theorem caught_err (x : Int) (w : World) : Calls Tryd.prog 63 #[.iface 34 (.int .i64 x)] w fun e w' => e = .returned (.int .i64 x) ∧ w = w' := by
  have hta : ∀ w, (Instr.typeAssert (.iface 34 (.int .i64 x)) 20 34 true).run Tryd.prog w = .ok (.tuple #[.int .i64 x, .bool true]) w := fun _ => by kernel_rfl
  go_enter Tryd.func63, Tryd.ntmps63
  go_wp2_with fail
  go_ret
  exact ⟨rfl, rfl⟩
theorem catch_panicking (ge gl ga g : Nat) (x old olda bg : Int) (hx : x ≠ 0) (oldl : Value) (older : List PanicEntry) (w : World) (ce : w.cell? ⟨ge, 0, none⟩ = some (.int .i64 old)) (fe : w.frozen? ⟨ge, 0, none⟩ = false) (cl : w.cell? ⟨gl, 0, none⟩ = some oldl) (fl : w.frozen? ⟨gl, 0, none⟩ = false)
    (ca : w.cell? ⟨ga, 0, none⟩ = some (.int .i64 olda)) (fa : w.frozen? ⟨ga, 0, none⟩ = false) (cb : w.cell? ⟨g, 2, none⟩ = some (.int .i64 bg)) (h1 : ge ≠ gl) (h2 : ge ≠ ga) (h3 : ge ≠ g) (h4 : gl ≠ ga) (h5 : gl ≠ g) :
    CallsD Tryd.prog 62 #[.pointer (some ⟨ge, 0, none⟩), .pointer (some ⟨g, 0, none⟩), .pointer (some ⟨gl, 0, none⟩), .pointer (some ⟨ga, 0, none⟩)] (.panicking ({ v := .iface 34 (.int .i64 x), recovered := false } :: older)) w fun e u' w' =>
      e = .returned (.tuple #[]) ∧ u' = .panicking ({ v := .iface 34 (.int .i64 x), recovered := true } :: older) ∧ w' = ((w.setCell ⟨ge, 0, none⟩ (.int .i64 x)).setCell ⟨gl, 0, none⟩ (.slice none 0 0)).setCell ⟨ga, 0, none⟩ (.int .i64 bg) := by
  refine callsD_of_wpS Tryd.func62 rfl fun c₀ cs hu => ?_
  apply wpS_seq
  apply wpS_region
  simp [wpOpsS, go_sem, recoverD, hu, Tryd.ntmps62, Exit.thenS]
  refine (caught_err x w).mono ?_
  rintro e w' ⟨rfl, rfl⟩
  simp [go_sem, ce, fe]
  apply wpS_seq
  apply wpS_region
  simp [wpOpsS, go_sem, ce, fe, Exit.thenS, hx]
  refine wpS_cond (t := true) (by simp [Act.eval, hx]) ?_
  simp only [if_true]
  apply wpS_region
  simp [wpOpsS, go_sem, ce, fe, cl, fl, ca, fa, cb, h1, h2, h3, h4, h5, h1.symm, h2.symm, h3.symm, h4.symm, h5.symm, bodyPostS, results, Tryd.results62]
theorem catch_idle (ge gl ga g : Nat) (old : Int) (w : World) (ce : w.cell? ⟨ge, 0, none⟩ = some (.int .i64 old)) (fe : w.frozen? ⟨ge, 0, none⟩ = false) :
    CallsD Tryd.prog 62 #[.pointer (some ⟨ge, 0, none⟩), .pointer (some ⟨g, 0, none⟩), .pointer (some ⟨gl, 0, none⟩), .pointer (some ⟨ga, 0, none⟩)] .returning w fun e u' w' =>
      e = .returned (.tuple #[]) ∧ u' = .returning ∧ w' = w.setCell ⟨ge, 0, none⟩ (.int .i64 0) := by
  refine callsD_of_wpS Tryd.func62 rfl fun c₀ cs hu => ?_
  apply wpS_seq
  apply wpS_region
  simp [wpOpsS, go_sem, recoverD, hu, Tryd.ntmps62, Exit.thenS]
  refine (caught_nil w).mono ?_
  rintro e w' ⟨rfl, rfl⟩
  simp [go_sem, ce, fe]
  apply wpS_seq
  apply wpS_region
  simp [wpOpsS, go_sem, ce, fe, Exit.thenS]
  refine wpS_cond (t := false) (by simp [Act.eval]) ?_
  simp only [Bool.false_eq_true, if_false]
  refine wpS_of_wp (wp_skip ?_)
  cases c₀
  simp_all [bodyPostS, results, Tryd.results62]
end Go.Proofs.YtlodoinmippebaaDoor
/- Package code: (*reader).ins, whatever lies ahead of it. -/
namespace Go.Proofs.YtlodoinmippebaaDoor
open Go.ChangeShapes Go.WideShapes Go.ChangeAt Go.RowKit
open Cod Bits
set_option linter.unusedVariables false
set_option linter.unusedSimpArgs false

/-- the bytes that are left: they lie below B -/
def Left (w : World) (B : Nat) (A : Option Addr) (n c : Nat) (L : List Int) : Prop :=
  L.length = n ∧ BytesL L ∧ (0 < n → n ≤ c ∧ ∃ b off, A = some ⟨b, off, none⟩ ∧ b < B ∧ ∀ i, i < L.length → w.cell? ⟨b, off + i, none⟩ = some (.int .u8 (L[i]?.getD 0)))
theorem Left.but {w w' : World} {B g : Nat} {A : Option Addr} {n c : Nat} {L : List Int} (h : Left w B A n c L) (hb : But g w w') (hB : B ≤ g) (hw : B ≤ w.heap.size) : Left w' B A n c L :=
  ⟨h.1, h.2.1, fun hn => by
    obtain ⟨hc, b, off, e, hl, hx⟩ := h.2.2 hn
    exact ⟨hc, b, off, e, hl, fun i hi => (hb.cell (by omega) (by omega)).trans (hx i hi)⟩⟩
theorem Left.below {w w' : World} {B : Nat} {A : Option Addr} {n c : Nat} {L : List Int} (h : Left w B A n c L) (hb : Below w.heap.size w w') (hw : B ≤ w.heap.size) : Left w' B A n c L :=
  ⟨h.1, h.2.1, fun hn => by
    obtain ⟨hc, b, off, e, hl, hx⟩ := h.2.2 hn
    exact ⟨hc, b, off, e, hl, fun i hi => (hb.cell (p := ⟨b, off + i, none⟩) (by show b < _; omega)).trans (hx i hi)⟩⟩
theorem Left.adv {w : World} {B b off n c : Nat} {L : List Int} (hlen : L.length = n) (hL : BytesL L) (hn : 8 ≤ n) (hc : n ≤ c) (hb : b < B) (hx : ∀ i, i < L.length → w.cell? ⟨b, off + i, none⟩ = some (.int .u8 (L[i]?.getD 0))) :
    Left w B (Go.Proofs.YtlodoinmippebaaDoor.adv b off c) (n - 8) (c - 8) (L.drop 8) := by
  refine ⟨by rw [List.length_drop, hlen], hL.drop 8, fun h0 => ⟨by omega, b, off + 8, ?_, hb, fun i hi => ?_⟩⟩
  · unfold Go.Proofs.YtlodoinmippebaaDoor.adv; rw [if_neg (by omega)]
  · rw [List.length_drop] at hi
    rw [List.getElem?_drop, show off + 8 + i = off + (8 + i) by omega]
    exact hx (8 + i) (by omega)
theorem Left.adv2 {w : World} {B b off n c : Nat} {L : List Int} (hlen : L.length = n) (hL : BytesL L) (hn : 16 ≤ n) (hc : n ≤ c) (hb : b < B) (hx : ∀ i, i < L.length → w.cell? ⟨b, off + i, none⟩ = some (.int .u8 (L[i]?.getD 0))) :
    Left w B (Go.Proofs.YtlodoinmippebaaDoor.adv b (off + 8) (c - 8)) (n - 8 - 8) (c - 8 - 8) (L.drop (8 * 2)) := by
  have h := Left.adv (w := w) (B := B) (b := b) (off := off + 8) (n := n - 8) (c := c - 8) (L := L.drop 8) (by rw [List.length_drop, hlen]) (hL.drop 8) (by omega) (by omega) hb (fun i hi => by
    rw [List.length_drop] at hi
    rw [List.getElem?_drop, show off + 8 + i = off + (8 + i) by omega]
    exact hx (8 + i) (by omega))
  rw [List.drop_drop] at h
  exact h
theorem insEnd_zero {E : Int} {v : Value} (h : E = 0) : insEnd E v = .returned v := if_pos h
theorem insEnd_pos {E : Int} {v : Value} (h : E ≠ 0) : insEnd E v = .panicked [{ v := .iface 34 (.int .i64 E), recovered := false }] := if_neg h

theorem ins_any (g B : Nat) (A : Option Addr) (n c : Nat) (L : List Int) (un bg : Int) (w : World) (hb : Blk w g 112 (rd3 A n c un bg)) (hB : B ≤ g) (hn : 0 < n) (hl : Left w B A n c L) (hu : 0 ≤ un ∧ un < 1000000) (ht : Tabs w) (hg4 : 3 ≤ g) :
    Calls Tryd.prog 66 #[.pointer (some ⟨g, 0, none⟩)] w fun e w' => e = insEnd (insD L).1 (.agg (insD L).2.1.arr) ∧ But g w w' ∧
      ∃ A' n' c' un', Blk w' g 112 (rd3 A' n' c' un' bg) ∧ ((insD L).1 = 0 → un' = un + (insD L).2.2 ∧ Left w' B A' n' c' (L.drop (8 * (insD L).2.2))) := by
  obtain ⟨hlen, hL, hx⟩ := hl
  obtain ⟨hc, b, off, rfl, hbB, hcell⟩ := hx hn
  have hgl := hb.lt
  have hne : b ≠ g := by omega
  unfold insD
  by_cases c1 : L.length < 8
  · rw [if_pos c1]
    refine (ins_short g _ n c un bg w hb (by omega)).mono fun e w' ⟨h1, h2, h3⟩ => ⟨?_, h2, _, _, _, _, h3, fun h => absurd h (by decide)⟩
    rw [h1]; rfl
  rw [if_neg c1]
  by_cases c2 : (opL (unitA L).oc).op = 0
  · rw [if_pos c2]
    refine (ins_zero g b off n c L un bg w hb (by omega) hc (by omega) hne hlen hL hcell ⟨hu.1, by omega⟩ ht hg4 c2).mono fun e w' ⟨h1, h2, h3⟩ => ⟨?_, h2, _, _, _, _, h3, fun h => absurd h (by decide)⟩
    rw [h1]; rfl
  rw [if_neg c2]
  by_cases c3 : (opL (unitA L).oc).op = 20
  · rw [if_pos c3]
    by_cases c4 : L.length < 16
    · rw [if_pos c4]
      refine (ins_two_short g b off n c L un bg w hb (by omega) hc (by omega) hne hlen hL hcell ⟨hu.1, by omega⟩ ht hg4 c3 (by omega)).mono fun e w' ⟨h1, h2, h3⟩ => ⟨?_, h2, _, _, _, _, h3, fun h => absurd h (by decide)⟩
      rw [h1]; rfl
    rw [if_neg c4]
    refine (ins_two g b off n c L un bg w hb (by omega) hc (by omega) hne hlen hL hcell hu ht hg4 c3 (by omega)).mono fun e w' ⟨h1, h2, h3⟩ => ⟨h1, h2, _, _, _, _, h3, fun _ => ⟨?_, ?_⟩⟩
    · show un + 1 + 1 = un + ((2 : Nat) : Int); omega
    · have hcell' : ∀ i, i < L.length → w'.cell? ⟨b, off + i, none⟩ = some (.int .u8 (L[i]?.getD 0)) := fun i hi => (h2.cell (by omega) hne).trans (hcell i hi)
      exact Left.adv2 hlen hL (by omega) hc hbB hcell'
  · rw [if_neg c3]
    refine (ins_one g b off n c L un bg w hb (by omega) hc (by omega) hne hlen hL hcell ⟨hu.1, by omega⟩ ht hg4 c2 c3).mono fun e w' ⟨h1, h2, h3⟩ => ⟨h1, h2, _, _, _, _, h3, fun _ => ⟨?_, ?_⟩⟩
    · show un + 1 = un + ((1 : Nat) : Int); omega
    · exact Left.adv hlen hL (by omega) hc hbB (fun i hi => (h2.cell (by omega) hne).trans (hcell i hi))
end Go.Proofs.YtlodoinmippebaaDoor
