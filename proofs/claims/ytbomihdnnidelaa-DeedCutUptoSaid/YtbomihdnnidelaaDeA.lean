/- Package deed: what the reader holds of memory; need, next, groups. -/
import Derived.Test.YtbomihdnnidelaaDeMem
import Derived.Test.YtbomihdnnidelaaDeS
import Derived.Recover
namespace Go.Proofs.Ytbomihdnnidelaa
open Go.ChangeShapes Go.WideShapes Go.ChangeAt Go.RowKit
open Dee
set_option linter.unusedVariables false
set_option linter.unusedSimpArgs false
set_option maxRecDepth 100000
theorem below_box (w : World) (o : Obj) : Below w.heap.size w (w.alloc o) := (Below.refl _ _).alloc (Nat.le_refl _) _
/-- what a reader panics with -/
def fltV (at_ e : Int) : List PanicEntry := [{ v := .iface 81 (.agg #[.int .i64 at_, .int .i64 e]), recovered := false }]
theorem need_yes (at_ e : Int) (w : World) : Calls Try.prog 61 #[.bool true, .int .i64 at_, .int .i64 e] w fun e w' => e = .returned (.tuple #[]) ∧ w = w' := by
  go_enter Try.func61, Try.ntmps61
  go_wp2_with fail
  go_end0
  exact ⟨rfl, rfl⟩
theorem need_no (at_ er : Int) (w : World) : Calls Try.prog 61 #[.bool false, .int .i64 at_, .int .i64 er] w fun e w' => e = .panicked (fltV at_ er) ∧ w = w' := by
  go_enter Try.func61, Try.ntmps61
  go_wp2_with fail
  exact ⟨rfl, rfl, rfl⟩
/-- the reader at g: of the bytes B, at A, L are left -/
structure Rd (w : World) (g : Nat) (A : Option Addr) (n c : Nat) (B L : List Int) : Prop where
  blk : Blk w g 84 #[.slice A n c, .int .i64 ((n - L.length : Nat) : Int)]
  bytes : BytesAt w A B
  old : ∀ b off, A = some ⟨b, off, none⟩ → b < g
  len : B.length = n
  byt : Bytes B
  drop : B.drop (n - L.length) = L
  le : L.length ≤ n
theorem BytesAt.touch {w w' : World} {g : Nat} {A : Option Addr} {L : List Int} (h : BytesAt w A L) (hn : ∀ b off, A = some ⟨b, off, none⟩ → b ≠ g) (ht : Touch g w w') : BytesAt w' A L := fun hp => by
  obtain ⟨b, off, e, hl, hc⟩ := h hp
  refine ⟨b, off, e, Nat.lt_of_lt_of_le hl ht.size, fun i hi => ?_⟩
  have := ht.block b hl (hn b off e)
  have k := hc i hi
  unfold World.cell? at k ⊢
  simp only [this] at k ⊢
  exact k
section
variable {w w' : World} {g : Nat} {A : Option Addr} {n c : Nat} {B L : List Int}
theorem Rd.far (h : Rd w g A n c B L) {k : Nat} (hk : g < k) (ht : Touch k w w') : Rd w' g A n c B L :=
  ⟨(ht.block g h.blk.lt (by omega)).trans h.blk, h.bytes.touch (fun b off e => by have := h.old b off e; omega) ht, h.old, h.len, h.byt, h.drop, h.le⟩
theorem Rd.up (h : Rd w g A n c B L) (hb : Below w.heap.size w w') : Rd w' g A n c B L :=
  ⟨h.blk.below hb h.blk.lt, h.bytes.below hb, h.old, h.len, h.byt, h.drop, h.le⟩
theorem Rd.drewN (h : Rd w g A n c B L) (k : Nat) : Rd (w.drewN k) g A n c B L := h.up ⟨rfl, rfl, rfl, Nat.le_refl _, fun _ _ => rfl⟩
theorem Rd.byteL (h : Rd w g A n c B L) : Bytes L := fun x hx => h.byt x (by rw [← h.drop] at hx; exact List.mem_of_mem_drop hx)
/-- the byte that is read next -/
theorem Rd.cell {b : Int} {t : List Int} (h : Rd w g A n c B (b :: t)) : ∃ blk off, A = some ⟨blk, off, none⟩ ∧ blk < g ∧ w.cell? ⟨blk, off + (n - (b :: t).length), none⟩ = some (.int .u8 b) := by
  have hle := h.le
  have hl := h.len
  obtain ⟨bk, off, e, hlt, hc⟩ := h.bytes (by simp at hle; omega)
  refine ⟨bk, off, e, h.old _ _ e, ?_⟩
  have hp : n - (b :: t).length < B.length := by simp at hle ⊢; omega
  rw [hc _ hp]
  have := congrArg List.head? h.drop
  rw [List.head?_drop] at this
  rw [this]
  rfl
/-- behind that byte -/
theorem Rd.next {b : Int} {t : List Int} (h : Rd w g A n c B (b :: t)) : Rd (w.setCell ⟨g, 1, none⟩ (.int .i64 ((n - t.length : Nat) : Int))) g A n c B t := by
  have hle := h.le
  simp at hle
  refine ⟨h.blk.set_ 1 _, h.bytes.touch (fun b off e => by have := h.old b off e; omega) (Touch.set_ w 1 _), h.old, h.len, h.byt, ?_, by omega⟩
  have hd := h.drop
  have e : n - t.length = (n - (b :: t).length) + 1 := by simp; omega
  rw [e, ← List.drop_drop, hd]
  rfl
theorem Touch.up {g : Nat} {a w w' : World} (h : Touch g a w) (hb : Below w.heap.size w w') : Touch g a w' := h.trans (.of_below hb)
end
/-- how a reader ends -/
def RdEnd {α : Type} (val : α → Value) (w : World) (g : Nat) (A : Option Addr) (n c : Nat) (B : List Int) (r : Rs α) (e : Ending) (w' : World) : Prop :=
  Touch g w w' ∧ match r with
  | .ok (x, t) => e = .returned (val x) ∧ Rd w' g A n c B t
  | .error (lf, er) => e = .panicked (fltV ((n - lf : Nat) : Int) er)
def i64V (x : Int) : Value := .int .i64 x
def nextR : List Int → Rs Int
  | [] => .error (0, 110)
  | b :: t => .ok (b, t)
set_option maxHeartbeats 1000000 in
theorem next_any (w : World) (g : Nat) (A : Option Addr) (n c : Nat) (B L : List Int) (hn : n ≤ 4194304) (h : Rd w g A n c B L) :
    Calls Try.prog 92 #[.pointer (some ⟨g, 0, none⟩)] w (RdEnd i64V w g A n c B (nextR L)) := by
  have HR := Lib.hid h
  have x0 : w.cell? ⟨g, 0, none⟩ = some (.slice A n c) := h.blk.cell 0
  have x1 : w.cell? ⟨g, 1, none⟩ = some (.int .i64 ((n - L.length : Nat) : Int)) := h.blk.cell 1
  have f1 : w.frozen? ⟨g, 1, none⟩ = false := h.blk.frozen 1
  cases L with
  | nil =>
    clear h
    simp only [List.length_nil, Nat.sub_zero] at x1
    go_enter Try.func92, Try.ntmps92
    go_upto_region 1 with (fail)
    refine wp_region_tail 14 (by kernel_rfl) (by kernel_rfl) fun W hW => ?_
    simp only [List.take_succ_cons, List.take_zero, List.drop_succ_cons, List.drop_zero]
    have y0 : W.cell? ⟨g, 0, none⟩ = some (.slice A n c) := by rw [hW]; exact x0
    have y1 : W.cell? ⟨g, 1, none⟩ = some (.int .i64 (n : Int)) := by rw [hW]; exact x1
    have HT := Lib.hid (show Touch g w W by rw [hW]; exact Touch.drewN w 1)
    clear x0 x1 f1 hW
    iterate 14 still_step
    refine wpStill_nil ?_
    go_wp2_with fail
    refine (need_no _ _ _).mono ?_
    rintro e w' ⟨rfl, rfl⟩
    exact ⟨rfl, HT.out, rfl⟩
  | cons b t =>
    obtain ⟨bk, off, rfl, hlt, hc⟩ := h.cell
    have hb := h.byteL.head
    have hle := h.le
    simp only [List.length_cons] at hle hc x1
    have HN := Lib.hid h.next
    clear h
    obtain ⟨p, hp⟩ : ∃ p : Nat, p = n - (t.length + 1) := ⟨_, rfl⟩
    have hp1 : n - t.length = p + 1 := by omega
    rw [hp1] at HN
    rw [← hp] at hc x1
    have hpn : (p : Int) < n := by omega
    have HNE := Lib.hid (show bk ≠ g by omega)
    have HTL := Lib.hid (show (n - t.length : Nat) = p + 1 from hp1)
    have HOK := Lib.hid (show ((p : Int) + 1) = ((p + 1 : Nat) : Int) by omega)
    clear hp hp1 hle
    go_enter Try.func92, Try.ntmps92
    go_upto_region 1 with (fail)
    refine wp_region_tail 14 (by kernel_rfl) (by kernel_rfl) fun W hW => ?_
    simp only [List.take_succ_cons, List.take_zero, List.drop_succ_cons, List.drop_zero]
    have y0 : W.cell? ⟨g, 0, none⟩ = some (.slice (some ⟨bk, off, none⟩) n c) := by rw [hW]; exact x0
    have y1 : W.cell? ⟨g, 1, none⟩ = some (.int .i64 (p : Int)) := by rw [hW]; exact x1
    have fW : W.frozen? ⟨g, 1, none⟩ = false := by rw [hW]; exact f1
    have yc : W.cell? ⟨bk, off + p, none⟩ = some (.int .u8 b) := by rw [hW]; exact hc
    have HT := Lib.hid (show Touch g w W by rw [hW]; exact Touch.drewN w 1)
    have HRW := Lib.hid (show Rd W g (some ⟨bk, off, none⟩) n c B (b :: t) by rw [hW]; exact HR.out.drewN 1)
    clear x0 x1 f1 hc hW HR HN
    iterate 14 still_step
    refine wpStill_nil ?_
    go_wp2_with fail
    refine (need_yes _ _ _).mono ?_
    rintro e w' ⟨rfl, rfl⟩
    have hN := HRW.out.next
    rw [HTL.out] at hN
    go_wp2_with fail
    rw [HOK.out]
    obtain ⟨V, hV⟩ : ∃ V, V = W.setCell ⟨g, 1, none⟩ (.int .i64 ((p + 1 : Nat) : Int)) := ⟨_, rfl⟩
    rw [← hV] at hN ⊢
    have z0 : V.cell? ⟨g, 0, none⟩ = some (.slice (some ⟨bk, off, none⟩) n c) := hN.blk.cell 0
    have z1 : V.cell? ⟨g, 1, none⟩ = some (.int .i64 ((p : Int) + 1)) := by
      have := hN.blk.cell 1
      rw [HTL.out, ← HOK.out] at this
      exact this
    have zc : V.cell? ⟨bk, off + p, none⟩ = some (.int .u8 b) := by
      rw [hV]
      simp [World.cell?, World.setCell, Array.getElem?_modify, HNE.out.symm] at yc ⊢
      exact yc
    have HTV := Lib.hid (show Touch g w V by rw [hV]; exact HT.out.trans (Touch.set_ W 1 _))
    have HNV := Lib.hid hN
    clear hN hV y0 y1 yc fW HT HRW HTL HOK HNE
    go_quiet (fail)
    go_wp2_with fail
    go_ret
    exact ⟨HTV.out.trans (Touch.drewN V _), rfl, HNV.out.drewN _⟩
end Go.Proofs.Ytbomihdnnidelaa
