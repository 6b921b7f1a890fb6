/- Contracts of package span: the rows of every operation. -/
import Derived.Test.YtjhgjplhhhgfcaaGreatSpO
namespace Go.Proofs.YtjhgjplhhhgfcaaGreat
open Go.ChangeShapes Go.WideShapes Go.ChangeAt Go.RowKit
open Spn
namespace Spc
set_option linter.unusedVariables false
set_option maxRecDepth 100000
/-- where a row's join is called -/
def DomR (op : Int) (r : Rw) (a b : E) : Prop := tells (sgX a) r.a = true ∧ tells (sgX b) r.b = true ∧ ((op = 11 ∨ op = 12 ∨ op = 13) → 0 ≤ b.lo ∧ b.hi ≤ 63)
/-- a row's cells -/
def RowAt (w : World) (op : Int) (g k : Nat) (r : Rw) : Prop := ∃ v, w.cell? ⟨g, 3 * k, none⟩ = some (.int .i64 r.a) ∧ w.cell? ⟨g, 3 * k + 1, none⟩ = some (.int .i64 r.b) ∧ w.cell? ⟨g, 3 * k + 2, none⟩ = some v ∧ JoinAt w v (DomR op r) r.j
/-- a slice of rows in memory -/
def RowsAt (w : World) (op : Int) (v : Value) (L : List Rw) : Prop :=
  ∃ A n, v = .slice A n n ∧ L.length = n ∧ n ≤ 4 ∧ ∀ k r, L[k]? = some r → ∃ g, A = some ⟨g, 0, none⟩ ∧ g < w.heap.size ∧ RowAt w op g k r
theorem RowAt.up {w w' : World} {op : Int} {g k : Nat} {r : Rw} (h : RowAt w op g k r) (hg : g < w.heap.size) (hb : Below w.heap.size w w') : RowAt w' op g k r := by
  obtain ⟨v, h1, h2, h3, h4⟩ := h
  exact ⟨v, (hb.cell (p := ⟨g, 3 * k, none⟩) hg).trans h1, (hb.cell (p := ⟨g, 3 * k + 1, none⟩) hg).trans h2, (hb.cell (p := ⟨g, 3 * k + 2, none⟩) hg).trans h3, h4.up hb⟩
theorem RowsAt.up {w w' : World} {op : Int} {v : Value} {L : List Rw} (h : RowsAt w op v L) (hb : Below w.heap.size w w') : RowsAt w' op v L := by
  obtain ⟨A, n, e, hl, h4, hr⟩ := h
  refine ⟨A, n, e, hl, h4, fun k r hk => ?_⟩
  obtain ⟨g, e2, hg, ha⟩ := hr k r hk
  exact ⟨g, e2, Nat.lt_of_lt_of_le hg hb.size, ha.up hg hb⟩
def RetR (w : World) (op : Int) (L : List Rw) (e : Ending) (w' : World) : Prop := ∃ v, e = .returned v ∧ RowsAt w' op v L ∧ Below w.heap.size w w'
theorem rowAt_of {w : World} {op : Int} {g k : Nat} {t : TypeId} {cs : Array Value} {r : Rw} {v : Value} (h : Blk w g t cs) (h1 : cs[3 * k]? = some (.int .i64 r.a)) (h2 : cs[3 * k + 1]? = some (.int .i64 r.b)) (h3 : cs[3 * k + 2]? = some v) (hj : JoinAt w v (DomR op r) r.j) : RowAt w op g k r :=
  ⟨v, (h.cell _).trans h1, (h.cell _).trans h2, (h.cell _).trans h3, hj⟩
theorem rowsAt_nil (w : World) (op : Int) : RowsAt w op (.slice none 0 0) [] := ⟨none, 0, rfl, rfl, by omega, fun k r h => by cases k <;> cases h⟩
theorem rowsAt_1 {w : World} {op : Int} {g : Nat} {t : TypeId} {r0 : Rw} {v0 : Value} (h : Blk w g t #[.int .i64 r0.a, .int .i64 r0.b, v0]) (j0 : JoinAt w v0 (DomR op r0) r0.j) : RowsAt w op (.slice (some ⟨g, 0, none⟩) 1 1) [r0] :=
  ⟨_, 1, rfl, rfl, by omega, fun k r hk => by
    rcases k with _ | k
    · cases hk; exact ⟨g, rfl, h.lt, rowAt_of h rfl rfl rfl j0⟩
    · cases hk⟩
theorem rowsAt_2 {w : World} {op : Int} {g : Nat} {t : TypeId} {r0 r1 : Rw} {v0 v1 : Value} (h : Blk w g t #[.int .i64 r0.a, .int .i64 r0.b, v0, .int .i64 r1.a, .int .i64 r1.b, v1]) (j0 : JoinAt w v0 (DomR op r0) r0.j) (j1 : JoinAt w v1 (DomR op r1) r1.j) : RowsAt w op (.slice (some ⟨g, 0, none⟩) 2 2) [r0, r1] :=
  ⟨_, 2, rfl, rfl, by omega, fun k r hk => by
    rcases k with _ | _ | k
    · cases hk; exact ⟨g, rfl, h.lt, rowAt_of h rfl rfl rfl j0⟩
    · cases hk; exact ⟨g, rfl, h.lt, rowAt_of h rfl rfl rfl j1⟩
    · cases hk⟩
theorem rowsAt_3 {w : World} {op : Int} {g : Nat} {t : TypeId} {r0 r1 r2 : Rw} {v0 v1 v2 : Value} (h : Blk w g t #[.int .i64 r0.a, .int .i64 r0.b, v0, .int .i64 r1.a, .int .i64 r1.b, v1, .int .i64 r2.a, .int .i64 r2.b, v2]) (j0 : JoinAt w v0 (DomR op r0) r0.j) (j1 : JoinAt w v1 (DomR op r1) r1.j) (j2 : JoinAt w v2 (DomR op r2) r2.j) : RowsAt w op (.slice (some ⟨g, 0, none⟩) 3 3) [r0, r1, r2] :=
  ⟨_, 3, rfl, rfl, by omega, fun k r hk => by
    rcases k with _ | _ | _ | k
    · cases hk; exact ⟨g, rfl, h.lt, rowAt_of h rfl rfl rfl j0⟩
    · cases hk; exact ⟨g, rfl, h.lt, rowAt_of h rfl rfl rfl j1⟩
    · cases hk; exact ⟨g, rfl, h.lt, rowAt_of h rfl rfl rfl j2⟩
    · cases hk⟩
theorem rowsAt_4 {w : World} {op : Int} {g : Nat} {t : TypeId} {r0 r1 r2 r3 : Rw} {v0 v1 v2 v3 : Value} (h : Blk w g t #[.int .i64 r0.a, .int .i64 r0.b, v0, .int .i64 r1.a, .int .i64 r1.b, v1, .int .i64 r2.a, .int .i64 r2.b, v2, .int .i64 r3.a, .int .i64 r3.b, v3]) (j0 : JoinAt w v0 (DomR op r0) r0.j) (j1 : JoinAt w v1 (DomR op r1) r1.j) (j2 : JoinAt w v2 (DomR op r2) r2.j) (j3 : JoinAt w v3 (DomR op r3) r3.j) : RowsAt w op (.slice (some ⟨g, 0, none⟩) 4 4) [r0, r1, r2, r3] :=
  ⟨_, 4, rfl, rfl, by omega, fun k r hk => by
    rcases k with _ | _ | _ | _ | k
    · cases hk; exact ⟨g, rfl, h.lt, rowAt_of h rfl rfl rfl j0⟩
    · cases hk; exact ⟨g, rfl, h.lt, rowAt_of h rfl rfl rfl j1⟩
    · cases hk; exact ⟨g, rfl, h.lt, rowAt_of h rfl rfl rfl j2⟩
    · cases hk; exact ⟨g, rfl, h.lt, rowAt_of h rfl rfl rfl j3⟩
    · cases hk⟩
theorem t1 {r : E} (h : r.ok) (ht : tells (sgX r) 1 = true) : 0 ≤ r.lo := of_decide_eq_true ((tells_1 r h.1).symm.trans ht)
theorem t2 {r : E} (ht : tells (sgX r) 2 = true) : r.hi < 0 := of_decide_eq_true ((tells_2 r).symm.trans ht)
theorem t4 {r : E} (ht : tells (sgX r) 4 = true) : 0 < r.lo ∨ r.hi < 0 := of_decide_eq_true ((tells_4 r).symm.trans ht)
theorem t5 {r : E} (h : r.ok) (ht : tells (sgX r) 5 = true) : 0 < r.lo := of_decide_eq_true ((tells_5 r h.1).symm.trans ht)
theorem ja_mov (w : World) : JoinAt w (.func (.func 84) #[] #[]) (DomR 15 ⟨0, 0, fun _ b => some b⟩) (fun _ b => some b) :=
  joinAt_plain w (fun _ _ => by kernel_rfl) fun W al ah bl bh ha hb hd => by
    exact j_mov al ah bl bh W
theorem ja_shares (w : World) : JoinAt w (.func (.func 121) #[] #[]) (DomR 4 ⟨0, 5, sharesX⟩) (sharesX) :=
  joinAt_plain w (fun _ _ => by kernel_rfl) fun W al ah bl bh ha hb hd => by
    exact j_shares al ah bl bh hb.2.1 (Int.le_trans hb.1 hb.2.2) W
theorem ja_d1 (w : World) : JoinAt w (.func (.func 122) #[] #[]) (DomR 4 ⟨0, 2, fun _ _ => some ⟨0, 1⟩⟩) (fun _ _ => some ⟨0, 1⟩) :=
  joinAt_plain w (fun _ _ => by kernel_rfl) fun W al ah bl bh ha hb hd => by
    exact j_d1 al ah bl bh W
theorem ja_d2 (w : World) : JoinAt w (.func (.func 123) #[] #[]) (DomR 5 ⟨1, 2, fun a _ => some a⟩) (fun a _ => some a) :=
  joinAt_plain w (fun _ _ => by kernel_rfl) fun W al ah bl bh ha hb hd => by
    exact j_d2 al ah bl bh W
theorem ja_d3 (w : World) : JoinAt w (.func (.func 124) #[] #[]) (DomR 5 ⟨1, 5, fun a b => if a.hi < b.lo then some a else none⟩) (fun a b => if a.hi < b.lo then some a else none) :=
  joinAt_plain w (fun _ _ => by kernel_rfl) fun W al ah bl bh ha hb hd => by
    exact j_d3 al ah bl bh W
theorem ja_d4 (w : World) : JoinAt w (.func (.func 125) #[] #[]) (DomR 5 ⟨1, 5, fun a b => some ⟨0, min a.hi (b.hi - 1)⟩⟩) (fun a b => some ⟨0, min a.hi (b.hi - 1)⟩) :=
  joinAt_plain w (fun _ _ => by kernel_rfl) fun W al ah bl bh ha hb hd => by
    have h5 := t5 hb hd.2.1
    have h6 := hb.1
    exact j_d4 al ah bl bh (Int.le_trans h5 h6) hb.2.2 W
theorem ja_d5 (w : World) : JoinAt w (.func (.func 126) #[] #[]) (DomR 5 ⟨0, 5, fun _ b => some ⟨0, b.hi - 1⟩⟩) (fun _ b => some ⟨0, b.hi - 1⟩) :=
  joinAt_plain w (fun _ _ => by kernel_rfl) fun W al ah bl bh ha hb hd => by
    have h5 := t5 hb hd.2.1
    have h6 := hb.1
    exact j_d5 al ah bl bh (Int.le_trans h5 h6) hb.2.2 W
theorem ja_rest (w : World) : JoinAt w (.func (.func 127) #[] #[]) (DomR 7 ⟨0, 4, restX⟩) (restX) :=
  joinAt_plain w (fun _ _ => by kernel_rfl) fun W al ah bl bh ha hb hd => by
    exact j_rest al ah bl bh hb (t4 hd.2.1) W
theorem ja_b1 (w : World) : JoinAt w (.func (.func 128) #[] #[]) (DomR 9 ⟨1, 1, fun a b => some ⟨0, min a.hi b.hi⟩⟩) (fun a b => some ⟨0, min a.hi b.hi⟩) :=
  joinAt_plain w (fun _ _ => by kernel_rfl) fun W al ah bl bh ha hb hd => by
    exact j_b1 al ah bl bh W
theorem ja_b2 (w : World) : JoinAt w (.func (.func 129) #[] #[]) (DomR 9 ⟨1, 0, fun a _ => some ⟨0, a.hi⟩⟩) (fun a _ => some ⟨0, a.hi⟩) :=
  joinAt_plain w (fun _ _ => by kernel_rfl) fun W al ah bl bh ha hb hd => by
    exact j_b2 al ah bl bh W
theorem ja_b3 (w : World) : JoinAt w (.func (.func 130) #[] #[]) (DomR 9 ⟨0, 1, fun _ b => some ⟨0, b.hi⟩⟩) (fun _ b => some ⟨0, b.hi⟩) :=
  joinAt_plain w (fun _ _ => by kernel_rfl) fun W al ah bl bh ha hb hd => by
    exact j_b3 al ah bl bh W
theorem ja_b4 (w : World) : JoinAt w (.func (.func 131) #[] #[]) (DomR 9 ⟨2, 2, fun a b => some ⟨LEAST, min a.hi b.hi⟩⟩) (fun a b => some ⟨LEAST, min a.hi b.hi⟩) :=
  joinAt_plain w (fun _ _ => by kernel_rfl) fun W al ah bl bh ha hb hd => by
    exact j_b4 al ah bl bh W
theorem ja_b5 (w : World) : JoinAt w (.func (.func 132) #[] #[]) (DomR 8 ⟨1, 1, fun a b => some ⟨max a.lo b.lo, fillX a.hi b.hi⟩⟩) (fun a b => some ⟨max a.lo b.lo, fillX a.hi b.hi⟩) :=
  joinAt_plain w (fun _ _ => by kernel_rfl) fun W al ah bl bh ha hb hd => by
    exact j_b5 al ah bl bh ⟨Int.le_trans (t1 ha hd.1) ha.1, ha.2.2⟩ ⟨Int.le_trans (t1 hb hd.2.1) hb.1, hb.2.2⟩ W
theorem ja_b6 (w : World) : JoinAt w (.func (.func 134) #[] #[]) (DomR 8 ⟨2, 2, fun a b => some ⟨max a.lo b.lo, -1⟩⟩) (fun a b => some ⟨max a.lo b.lo, -1⟩) :=
  joinAt_plain w (fun _ _ => by kernel_rfl) fun W al ah bl bh ha hb hd => by
    exact j_b6 al ah bl bh W
theorem ja_b7 (w : World) : JoinAt w (.func (.func 135) #[] #[]) (DomR 8 ⟨2, 0, fun a _ => some ⟨a.lo, -1⟩⟩) (fun a _ => some ⟨a.lo, -1⟩) :=
  joinAt_plain w (fun _ _ => by kernel_rfl) fun W al ah bl bh ha hb hd => by
    exact j_b7 al ah bl bh W
theorem ja_b8 (w : World) : JoinAt w (.func (.func 136) #[] #[]) (DomR 8 ⟨0, 2, fun _ b => some ⟨b.lo, -1⟩⟩) (fun _ b => some ⟨b.lo, -1⟩) :=
  joinAt_plain w (fun _ _ => by kernel_rfl) fun W al ah bl bh ha hb hd => by
    exact j_b8 al ah bl bh W
theorem ja_b9 (w : World) : JoinAt w (.func (.func 137) #[] #[]) (DomR 10 ⟨1, 1, fun a b => some ⟨0, fillX a.hi b.hi⟩⟩) (fun a b => some ⟨0, fillX a.hi b.hi⟩) :=
  joinAt_plain w (fun _ _ => by kernel_rfl) fun W al ah bl bh ha hb hd => by
    exact j_b9 al ah bl bh ⟨Int.le_trans (t1 ha hd.1) ha.1, ha.2.2⟩ ⟨Int.le_trans (t1 hb hd.2.1) hb.1, hb.2.2⟩ W
theorem ja_alike (w : World) : JoinAt w (.func (.func 138) #[] #[]) (DomR 11 ⟨0, 0, alikeX⟩) (alikeX) :=
  joinAt_plain w (fun _ _ => by kernel_rfl) fun W al ah bl bh ha hb hd => by
    have hc := hd.2.2 (by decide)
    exact j_alike al ah bl bh ha hb hc.1 hc.2 W
theorem ja_sh (w : World) : JoinAt w (.func (.func 141) #[] #[]) (DomR 12 ⟨0, 5, fun _ c => some ⟨0, 2 ^ (64 - c.lo).toNat - 1⟩⟩) (fun _ c => some ⟨0, 2 ^ (64 - c.lo).toNat - 1⟩) :=
  joinAt_plain w (fun _ _ => by kernel_rfl) fun W al ah bl bh ha hb hd => by
    have hc := hd.2.2 (by decide)
    have h5 := t5 hb hd.2.1
    have h6 := hb.1
    exact j_sh al ah bl bh h5 (Int.le_trans h6 hc.2) W
theorem jc_plus {w : World} {g : Nat} (hb : Blk w g 118 #[.func (.func 86) #[] #[]]) : JoinAt w (.func (.func 117) #[] #[.pointer (some ⟨g, 0, none⟩)]) (DomR 1 ⟨0, 0, cornX plusX⟩) (cornX plusX) :=
  joinAt_corner en_plus (fun a b ha hb hd y hy x => by
    trivial) hb
theorem jc_minus {w : World} {g : Nat} (hb : Blk w g 118 #[.func (.func 87) #[] #[]]) : JoinAt w (.func (.func 117) #[] #[.pointer (some ⟨g, 0, none⟩)]) (DomR 2 ⟨0, 0, cornX minusX⟩) (cornX minusX) :=
  joinAt_corner en_minus (fun a b ha hb hd y hy x => by
    trivial) hb
theorem jc_times {w : World} {g : Nat} (hb : Blk w g 118 #[.func (.func 88) #[] #[]]) : JoinAt w (.func (.func 117) #[] #[.pointer (some ⟨g, 0, none⟩)]) (DomR 3 ⟨0, 0, cornX timesX⟩) (cornX timesX) :=
  joinAt_corner en_times (fun a b ha hb hd y hy x => by
    trivial) hb
theorem jc_quot {w : World} {g : Nat} (hb : Blk w g 118 #[.func (.func 120) #[] #[]]) : JoinAt w (.func (.func 117) #[] #[.pointer (some ⟨g, 0, none⟩)]) (DomR 4 ⟨1, 5, cornX quotX⟩) (cornX quotX) :=
  joinAt_corner en_quot (fun a b ha hb hd y hy x => by
    have h5 := t5 hb hd.2.1
    have h6 := hb.1
    rcases hy with rfl | rfl <;> omega) hb
theorem jc_squot {w : World} {g : Nat} (hb : Blk w g 118 #[.func (.func 120) #[] #[]]) : JoinAt w (.func (.func 117) #[] #[.pointer (some ⟨g, 0, none⟩)]) (DomR 6 ⟨0, 4, cornX quotX⟩) (cornX quotX) :=
  joinAt_corner en_quot (fun a b ha hb hd y hy x => by
    have h5 := t4 hd.2.1
    have h6 := hb.1
    rcases hy with rfl | rfl <;> omega) hb
theorem jc_left {w : World} {g : Nat} (hb : Blk w g 118 #[.func (.func 139) #[] #[]]) : JoinAt w (.func (.func 117) #[] #[.pointer (some ⟨g, 0, none⟩)]) (DomR 11 ⟨1, 0, cornX leftX⟩) (cornX leftX) :=
  joinAt_corner en_left (fun a b ha hb hd y hy x => by
    have hc := hd.2.2 (by decide)
    have h6 := hb.1
    rcases hy with rfl | rfl <;> omega) hb
theorem jc_right {w : World} {g : Nat} (hb : Blk w g 118 #[.func (.func 140) #[] #[]]) : JoinAt w (.func (.func 117) #[] #[.pointer (some ⟨g, 0, none⟩)]) (DomR 12 ⟨1, 0, cornX rightX⟩) (cornX rightX) :=
  joinAt_corner en_right (fun a b ha hb hd y hy x => by
    have hc := hd.2.2 (by decide)
    have h6 := hb.1
    rcases hy with rfl | rfl <;> omega) hb
theorem jc_aright {w : World} {g : Nat} (hb : Blk w g 118 #[.func (.func 140) #[] #[]]) : JoinAt w (.func (.func 117) #[] #[.pointer (some ⟨g, 0, none⟩)]) (DomR 13 ⟨0, 0, cornX rightX⟩) (cornX rightX) :=
  joinAt_corner en_right (fun a b ha hb hd y hy x => by
    have hc := hd.2.2 (by decide)
    have h6 := hb.1
    rcases hy with rfl | rfl <;> omega) hb
set_option maxHeartbeats 1000000 in
theorem rows_divisions_4 (w : World) : Calls Tryz.prog 89 #[.int .i64 4] w (RetR w 4 (rowsX 4)) := by
  have HC := Lib.hid (fun w => corners_any 120 w)
  go_enter Tryz.func89, Tryz.ntmps89
  go_wp2_with fail
  refine (HC.out _).mono ?_
  rintro e w1 ⟨rfl, hb, hB⟩
  have Hb := Lib.hid (hb.alloc)
  have HB := Lib.hid hB
  clear hb hB HC
  go_wp2_with fail
  go_ret
  exact ⟨_, rfl, rowsAt_3 (Blk.new _ _ _) (jc_quot (Hb.out _)) (ja_shares _) (ja_d1 _), nx HB.out (below_box' _ _)⟩
set_option maxHeartbeats 1000000 in
theorem rows_divisions_5 (w : World) : Calls Tryz.prog 89 #[.int .i64 5] w (RetR w 5 (rowsX 5)) := by
  go_enter Tryz.func89, Tryz.ntmps89
  go_wp2_with fail
  go_ret
  exact ⟨_, rfl, rowsAt_4 (Blk.new _ _ _) (ja_d2 _) (ja_d3 _) (ja_d4 _) (ja_d5 _), below_box' _ _⟩
set_option maxHeartbeats 1000000 in
theorem rows_divisions_6 (w : World) : Calls Tryz.prog 89 #[.int .i64 6] w (RetR w 6 (rowsX 6)) := by
  have HC := Lib.hid (fun w => corners_any 120 w)
  go_enter Tryz.func89, Tryz.ntmps89
  go_wp2_with fail
  refine (HC.out _).mono ?_
  rintro e w1 ⟨rfl, hb, hB⟩
  have Hb := Lib.hid (hb.alloc)
  have HB := Lib.hid hB
  clear hb hB HC
  go_wp2_with fail
  go_ret
  exact ⟨_, rfl, rowsAt_1 (Blk.new _ _ _) (jc_squot (Hb.out _)), nx HB.out (below_box' _ _)⟩
set_option maxHeartbeats 1000000 in
theorem rows_divisions_7 (w : World) : Calls Tryz.prog 89 #[.int .i64 7] w (RetR w 7 (rowsX 7)) := by
  go_enter Tryz.func89, Tryz.ntmps89
  go_wp2_with fail
  go_ret
  exact ⟨_, rfl, rowsAt_1 (Blk.new _ _ _) (ja_rest _), below_box' _ _⟩
set_option maxHeartbeats 1000000 in
theorem rows_bitwise_9 (w : World) : Calls Tryz.prog 90 #[.int .i64 9] w (RetR w 9 (rowsX 9)) := by
  go_enter Tryz.func90, Tryz.ntmps90
  go_wp2_with fail
  go_ret
  exact ⟨_, rfl, rowsAt_4 (Blk.new _ _ _) (ja_b1 _) (ja_b2 _) (ja_b3 _) (ja_b4 _), below_box' _ _⟩
set_option maxHeartbeats 1000000 in
theorem rows_bitwise_8 (w : World) : Calls Tryz.prog 90 #[.int .i64 8] w (RetR w 8 (rowsX 8)) := by
  go_enter Tryz.func90, Tryz.ntmps90
  go_wp2_with fail
  go_ret
  exact ⟨_, rfl, rowsAt_4 (Blk.new _ _ _) (ja_b5 _) (ja_b6 _) (ja_b7 _) (ja_b8 _), below_box' _ _⟩
set_option maxHeartbeats 1000000 in
theorem rows_bitwise_10 (w : World) : Calls Tryz.prog 90 #[.int .i64 10] w (RetR w 10 (rowsX 10)) := by
  go_enter Tryz.func90, Tryz.ntmps90
  go_wp2_with fail
  go_ret
  exact ⟨_, rfl, rowsAt_1 (Blk.new _ _ _) (ja_b9 _), below_box' _ _⟩
set_option maxHeartbeats 1000000 in
theorem rows_shifts_11 (w : World) : Calls Tryz.prog 91 #[.int .i64 11] w (RetR w 11 (rowsX 11)) := by
  have HC := Lib.hid (fun w => corners_any 139 w)
  go_enter Tryz.func91, Tryz.ntmps91
  go_wp2_with fail
  refine (HC.out _).mono ?_
  rintro e w1 ⟨rfl, hb, hB⟩
  have Hb := Lib.hid (hb.alloc)
  have HB := Lib.hid hB
  clear hb hB HC
  go_wp2_with fail
  go_ret
  exact ⟨_, rfl, rowsAt_2 (Blk.new _ _ _) (ja_alike _) (jc_left (Hb.out _)), nx HB.out (below_box' _ _)⟩
set_option maxHeartbeats 1000000 in
theorem rows_shifts_12 (w : World) : Calls Tryz.prog 91 #[.int .i64 12] w (RetR w 12 (rowsX 12)) := by
  have HC := Lib.hid (fun w => corners_any 140 w)
  go_enter Tryz.func91, Tryz.ntmps91
  go_wp2_with fail
  refine (HC.out _).mono ?_
  rintro e w1 ⟨rfl, hb, hB⟩
  have Hb := Lib.hid (hb.alloc)
  have HB := Lib.hid hB
  clear hb hB HC
  go_wp2_with fail
  go_ret
  exact ⟨_, rfl, rowsAt_2 (Blk.new _ _ _) (jc_right (Hb.out _)) (ja_sh _), nx HB.out (below_box' _ _)⟩
set_option maxHeartbeats 1000000 in
theorem rows_shifts_13 (w : World) : Calls Tryz.prog 91 #[.int .i64 13] w (RetR w 13 (rowsX 13)) := by
  have HC := Lib.hid (fun w => corners_any 140 w)
  go_enter Tryz.func91, Tryz.ntmps91
  go_wp2_with fail
  refine (HC.out _).mono ?_
  rintro e w1 ⟨rfl, hb, hB⟩
  have Hb := Lib.hid (hb.alloc)
  have HB := Lib.hid hB
  clear hb hB HC
  go_wp2_with fail
  go_ret
  exact ⟨_, rfl, rowsAt_1 (Blk.new _ _ _) (jc_aright (Hb.out _)), nx HB.out (below_box' _ _)⟩
set_option maxHeartbeats 1000000 in
theorem rows_rows_15 (w : World) : Calls Tryz.prog 69 #[.int .i64 15] w (RetR w 15 (rowsX 15)) := by
  go_enter Tryz.func69, Tryz.ntmps69
  go_wp2_with fail
  go_ret
  exact ⟨_, rfl, rowsAt_1 (Blk.new _ _ _) (ja_mov _), below_box' _ _⟩
set_option maxHeartbeats 1000000 in
theorem rows_rows_1 (w : World) : Calls Tryz.prog 69 #[.int .i64 1] w (RetR w 1 (rowsX 1)) := by
  have HC := Lib.hid (fun w => corners_any 86 w)
  go_enter Tryz.func69, Tryz.ntmps69
  go_wp2_with fail
  refine (HC.out _).mono ?_
  rintro e w1 ⟨rfl, hb, hB⟩
  have Hb := Lib.hid (hb.alloc)
  have HB := Lib.hid hB
  clear hb hB HC
  go_wp2_with fail
  go_ret
  exact ⟨_, rfl, rowsAt_1 (Blk.new _ _ _) (jc_plus (Hb.out _)), nx HB.out (below_box' _ _)⟩
set_option maxHeartbeats 1000000 in
theorem rows_rows_2 (w : World) : Calls Tryz.prog 69 #[.int .i64 2] w (RetR w 2 (rowsX 2)) := by
  have HC := Lib.hid (fun w => corners_any 87 w)
  go_enter Tryz.func69, Tryz.ntmps69
  go_wp2_with fail
  refine (HC.out _).mono ?_
  rintro e w1 ⟨rfl, hb, hB⟩
  have Hb := Lib.hid (hb.alloc)
  have HB := Lib.hid hB
  clear hb hB HC
  go_wp2_with fail
  go_ret
  exact ⟨_, rfl, rowsAt_1 (Blk.new _ _ _) (jc_minus (Hb.out _)), nx HB.out (below_box' _ _)⟩
set_option maxHeartbeats 1000000 in
theorem rows_rows_3 (w : World) : Calls Tryz.prog 69 #[.int .i64 3] w (RetR w 3 (rowsX 3)) := by
  have HC := Lib.hid (fun w => corners_any 88 w)
  go_enter Tryz.func69, Tryz.ntmps69
  go_wp2_with fail
  refine (HC.out _).mono ?_
  rintro e w1 ⟨rfl, hb, hB⟩
  have Hb := Lib.hid (hb.alloc)
  have HB := Lib.hid hB
  clear hb hB HC
  go_wp2_with fail
  go_ret
  exact ⟨_, rfl, rowsAt_1 (Blk.new _ _ _) (jc_times (Hb.out _)), nx HB.out (below_box' _ _)⟩
set_option maxHeartbeats 1000000 in
theorem rows_rows_4 (w : World) : Calls Tryz.prog 69 #[.int .i64 4] w (RetR w 4 (rowsX 4)) := by
  have HC := Lib.hid (fun w => rows_divisions_4 w)
  go_enter Tryz.func69, Tryz.ntmps69
  go_wp2_with fail
  refine (HC.out _).mono ?_
  rintro e w1 ⟨v, rfl, hr, hB⟩
  have HR := Lib.hid hr
  clear hr HC
  go_wp2_with fail
  go_ret
  exact ⟨_, rfl, HR.out, hB⟩
set_option maxHeartbeats 1000000 in
theorem rows_rows_5 (w : World) : Calls Tryz.prog 69 #[.int .i64 5] w (RetR w 5 (rowsX 5)) := by
  have HC := Lib.hid (fun w => rows_divisions_5 w)
  go_enter Tryz.func69, Tryz.ntmps69
  go_wp2_with fail
  refine (HC.out _).mono ?_
  rintro e w1 ⟨v, rfl, hr, hB⟩
  have HR := Lib.hid hr
  clear hr HC
  go_wp2_with fail
  go_ret
  exact ⟨_, rfl, HR.out, hB⟩
set_option maxHeartbeats 1000000 in
theorem rows_rows_6 (w : World) : Calls Tryz.prog 69 #[.int .i64 6] w (RetR w 6 (rowsX 6)) := by
  have HC := Lib.hid (fun w => rows_divisions_6 w)
  go_enter Tryz.func69, Tryz.ntmps69
  go_wp2_with fail
  refine (HC.out _).mono ?_
  rintro e w1 ⟨v, rfl, hr, hB⟩
  have HR := Lib.hid hr
  clear hr HC
  go_wp2_with fail
  go_ret
  exact ⟨_, rfl, HR.out, hB⟩
set_option maxHeartbeats 1000000 in
theorem rows_rows_7 (w : World) : Calls Tryz.prog 69 #[.int .i64 7] w (RetR w 7 (rowsX 7)) := by
  have HC := Lib.hid (fun w => rows_divisions_7 w)
  go_enter Tryz.func69, Tryz.ntmps69
  go_wp2_with fail
  refine (HC.out _).mono ?_
  rintro e w1 ⟨v, rfl, hr, hB⟩
  have HR := Lib.hid hr
  clear hr HC
  go_wp2_with fail
  go_ret
  exact ⟨_, rfl, HR.out, hB⟩
set_option maxHeartbeats 1000000 in
theorem rows_rows_8 (w : World) : Calls Tryz.prog 69 #[.int .i64 8] w (RetR w 8 (rowsX 8)) := by
  have HC := Lib.hid (fun w => rows_bitwise_8 w)
  go_enter Tryz.func69, Tryz.ntmps69
  go_wp2_with fail
  refine (HC.out _).mono ?_
  rintro e w1 ⟨v, rfl, hr, hB⟩
  have HR := Lib.hid hr
  clear hr HC
  go_wp2_with fail
  go_ret
  exact ⟨_, rfl, HR.out, hB⟩
set_option maxHeartbeats 1000000 in
theorem rows_rows_9 (w : World) : Calls Tryz.prog 69 #[.int .i64 9] w (RetR w 9 (rowsX 9)) := by
  have HC := Lib.hid (fun w => rows_bitwise_9 w)
  go_enter Tryz.func69, Tryz.ntmps69
  go_wp2_with fail
  refine (HC.out _).mono ?_
  rintro e w1 ⟨v, rfl, hr, hB⟩
  have HR := Lib.hid hr
  clear hr HC
  go_wp2_with fail
  go_ret
  exact ⟨_, rfl, HR.out, hB⟩
set_option maxHeartbeats 1000000 in
theorem rows_rows_10 (w : World) : Calls Tryz.prog 69 #[.int .i64 10] w (RetR w 10 (rowsX 10)) := by
  have HC := Lib.hid (fun w => rows_bitwise_10 w)
  go_enter Tryz.func69, Tryz.ntmps69
  go_wp2_with fail
  refine (HC.out _).mono ?_
  rintro e w1 ⟨v, rfl, hr, hB⟩
  have HR := Lib.hid hr
  clear hr HC
  go_wp2_with fail
  go_ret
  exact ⟨_, rfl, HR.out, hB⟩
set_option maxHeartbeats 1000000 in
theorem rows_rows_11 (w : World) : Calls Tryz.prog 69 #[.int .i64 11] w (RetR w 11 (rowsX 11)) := by
  have HC := Lib.hid (fun w => rows_shifts_11 w)
  go_enter Tryz.func69, Tryz.ntmps69
  go_wp2_with fail
  refine (HC.out _).mono ?_
  rintro e w1 ⟨v, rfl, hr, hB⟩
  have HR := Lib.hid hr
  clear hr HC
  go_wp2_with fail
  go_ret
  exact ⟨_, rfl, HR.out, hB⟩
set_option maxHeartbeats 1000000 in
theorem rows_rows_12 (w : World) : Calls Tryz.prog 69 #[.int .i64 12] w (RetR w 12 (rowsX 12)) := by
  have HC := Lib.hid (fun w => rows_shifts_12 w)
  go_enter Tryz.func69, Tryz.ntmps69
  go_wp2_with fail
  refine (HC.out _).mono ?_
  rintro e w1 ⟨v, rfl, hr, hB⟩
  have HR := Lib.hid hr
  clear hr HC
  go_wp2_with fail
  go_ret
  exact ⟨_, rfl, HR.out, hB⟩
set_option maxHeartbeats 1000000 in
theorem rows_rows_13 (w : World) : Calls Tryz.prog 69 #[.int .i64 13] w (RetR w 13 (rowsX 13)) := by
  have HC := Lib.hid (fun w => rows_shifts_13 w)
  go_enter Tryz.func69, Tryz.ntmps69
  go_wp2_with fail
  refine (HC.out _).mono ?_
  rintro e w1 ⟨v, rfl, hr, hB⟩
  have HR := Lib.hid hr
  clear hr HC
  go_wp2_with fail
  go_ret
  exact ⟨_, rfl, HR.out, hB⟩
theorem rowsX_no (op : Int) (h : op < 1 ∨ 15 < op ∨ op = 14) : rowsX op = [] := by
  unfold rowsX
  repeat rw [if_neg (by omega)]
set_option maxHeartbeats 1000000 in
theorem rows_rows_no (op : Int) (h : op < 1 ∨ 15 < op ∨ op = 14) (w : World) : Calls Tryz.prog 69 #[.int .i64 op] w (RetR w op (rowsX op)) := by
  rw [rowsX_no op h]
  have t1 : (op == 1) = false := by rw [beq_eq_false_iff_ne]; omega
  have t2 : (op == 2) = false := by rw [beq_eq_false_iff_ne]; omega
  have t3 : (op == 3) = false := by rw [beq_eq_false_iff_ne]; omega
  have t4 : (op == 4) = false := by rw [beq_eq_false_iff_ne]; omega
  have t5 : (op == 5) = false := by rw [beq_eq_false_iff_ne]; omega
  have t6 : (op == 6) = false := by rw [beq_eq_false_iff_ne]; omega
  have t7 : (op == 7) = false := by rw [beq_eq_false_iff_ne]; omega
  have t8 : (op == 8) = false := by rw [beq_eq_false_iff_ne]; omega
  have t9 : (op == 9) = false := by rw [beq_eq_false_iff_ne]; omega
  have t10 : (op == 10) = false := by rw [beq_eq_false_iff_ne]; omega
  have t11 : (op == 11) = false := by rw [beq_eq_false_iff_ne]; omega
  have t12 : (op == 12) = false := by rw [beq_eq_false_iff_ne]; omega
  have t13 : (op == 13) = false := by rw [beq_eq_false_iff_ne]; omega
  have t15 : (op == 15) = false := by rw [beq_eq_false_iff_ne]; omega
  clear h
  go_enter Tryz.func69, Tryz.ntmps69
  go_wp2_with fail
  go_ret
  exact ⟨_, rfl, rowsAt_nil _ _, Below.refl _ _⟩
theorem rows_any (op : Int) (w : World) : Calls Tryz.prog 69 #[.int .i64 op] w (RetR w op (rowsX op)) := by
  by_cases h : op < 1 ∨ 15 < op ∨ op = 14
  · exact rows_rows_no op h w
  · have hc : op = 1 ∨ op = 2 ∨ op = 3 ∨ op = 4 ∨ op = 5 ∨ op = 6 ∨ op = 7 ∨ op = 8 ∨ op = 9 ∨ op = 10 ∨ op = 11 ∨ op = 12 ∨ op = 13 ∨ op = 15 := by omega
    clear h
    rcases hc with rfl | rfl | rfl | rfl | rfl | rfl | rfl | rfl | rfl | rfl | rfl | rfl | rfl | rfl
    · exact rows_rows_1 w
    · exact rows_rows_2 w
    · exact rows_rows_3 w
    · exact rows_rows_4 w
    · exact rows_rows_5 w
    · exact rows_rows_6 w
    · exact rows_rows_7 w
    · exact rows_rows_8 w
    · exact rows_rows_9 w
    · exact rows_rows_10 w
    · exact rows_rows_11 w
    · exact rows_rows_12 w
    · exact rows_rows_13 w
    · exact rows_rows_15 w
end Spc
end Go.Proofs.YtjhgjplhhhgfcaaGreat
