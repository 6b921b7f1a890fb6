/- Package deed: what a method that makes a struct holds; rises; con. -/
import Derived.Test.YtbomihdnnidelaaDeD
import Derived.Test.YtbomihdnnidelaaDeRow
namespace Go.Proofs.Ytbomihdnnidelaa
open Go.ChangeShapes Go.WideShapes Go.ChangeAt Go.RowKit
open Dee
set_option linter.unusedVariables false
set_option linter.unusedSimpArgs false
set_option maxRecDepth 100000
/-- the reader, the result's variable (z) and the struct's own (f) -/
structure VrS (w0 : World) (g gr gl : Nat) (ty : TypeId) (N : Nat) (z f : Nat → Value) (A : Option Addr) (n c : Nat) (B L : List Int) (w : World) : Prop where
  rd : Rd w g A n c B L
  res : FB w gr ty N z
  var : FB w gl ty N f
  touch : Touch g w0 w
  lr : g < gr
  ll : g < gl
  ne : gr ≠ gl
  nr : w0.heap.size ≤ gr
  nl : w0.heap.size ≤ gl
section
variable {w0 w w' : World} {g gr gl : Nat} {ty : TypeId} {N : Nat} {z f f' : Nat → Value} {A : Option Addr} {n c : Nat} {B L L' : List Int}
theorem VrS.read (h : VrS w0 g gr gl ty N z f A n c B L w) (hR : Rd w' g A n c B L') (hT : Touch g w w') : VrS w0 g gr gl ty N z f A n c B L' w' :=
  ⟨hR, h.res.touch hT (by have := h.lr; omega), h.var.touch hT (by have := h.ll; omega), h.touch.trans hT, h.lr, h.ll, h.ne, h.nr, h.nl⟩
theorem VrS.own (h : VrS w0 g gr gl ty N z f A n c B L w) (hT : Touch gl w w') (hF : FB w' gl ty N f') : VrS w0 g gr gl ty N z f' A n c B L w' :=
  ⟨h.rd.far h.ll hT, h.res.touch hT h.ne, hF, h.touch.own h.nl hT, h.lr, h.ll, h.ne, h.nr, h.nl⟩
theorem VrS.put (h : VrS w0 g gr gl ty N z f A n c B L w) (k : Nat) (v : Value) (e : ∀ q, q < N → upd f k v q = f' q) : VrS w0 g gr gl ty N z f' A n c B L (w.setCell ⟨gl, k, none⟩ v) :=
  h.own (Touch.set_ w k v) ((h.var.set_ k v).congr e)
theorem VrS.up (h : VrS w0 g gr gl ty N z f A n c B L w) (hb : Below w.heap.size w w') : VrS w0 g gr gl ty N z f A n c B L w' :=
  ⟨h.rd.up hb, h.res.up hb, h.var.up hb, h.touch.up hb, h.lr, h.ll, h.ne, h.nr, h.nl⟩
end
/-! constraints -/
def coF (x : Con) : Nat → Value := fun q => if q = 0 then .int .i64 x.i else if q = 1 then .int .i64 x.j else .int .i64 x.c
def coV (x : Con) : Value := .agg (arr 3 (coF x))
theorem zeroCon : (Try.prog.info? 63).bind (fun i => i.zero.map Value.cells) = some (arr 3 (coF ⟨0, 0, 0⟩)) := by kernel_rfl
theorem sizeCon : (Try.prog.info? 63).map (·.size) = some 3 := by kernel_rfl
theorem coF_one (x : Con) : ∀ q, q < 3 → (coF x q).oneCell' = true := fun q hq => by
  rcases (show q = 0 ∨ q = 1 ∨ q = 2 by omega) with rfl | rfl | rfl <;> rfl
def RetB (w : World) (v : Value) (e : Ending) (w' : World) : Prop := e = .returned v ∧ Below w.heap.size w w'
set_option maxHeartbeats 2000000 in
theorem rises_any (w : World) (A : Option Addr) (m c : Nat) (l : List Con) (x : Con) (hm : l.length = m) (hs : m ≤ 9223372036854775807) (h : RowsAt w A 3 coF l) :
    Calls Try.prog 73 #[.slice A m c, coV x] w (RetB w (.bool (risesB l x))) := by
  have HM := Lib.hid hm
  have H := Lib.hid h
  clear hm h
  unfold coV
  go_enter Try.func73, Try.ntmps73
  go_upto_region 1 with (refine wpList_box_seg rfl _ (.tmp 1) rfl 3 (coF x) rfl ?_; intro w1 h1 hB1 hs1)
  have H1 := Lib.hid h1
  have HB1 := Lib.hid hB1
  obtain ⟨gb, hgb⟩ : ∃ gb, gb = w.heap.size := ⟨_, rfl⟩
  rw [← hgb] at H1 ⊢
  have HGB := Lib.hid hgb
  clear h1 hB1 hs1 hgb
  rcases List.eq_nil_or_concat l with hl | ⟨l1, y, hl⟩
  · have hm0 : m = 0 := by rw [← HM.out, hl]; rfl
    have HR := Lib.hid (show risesB l x = true by rw [hl]; rfl)
    subst hm0
    go_wp2_with fail
    go_ret
    exact ⟨ret_bool HR.out.symm, HB1.out⟩
  · have hl' : l = l1 ++ [y] := by rw [hl, List.concat_eq_append]
    have hm1 : m = l1.length + 1 := by rw [← HM.out, hl']; simp
    obtain ⟨p, hp⟩ : ∃ p, p = l1.length := ⟨_, rfl⟩
    have hmp : m = p + 1 := by omega
    subst hmp
    have hpc : p ≤ 9223372036854775807 := by omega
    have t0 : ((p : Int) + 1 == 0) = false := by rw [beq_eq_false_iff_ne]; omega
    obtain ⟨b, off, rfl, hb, hc⟩ := H.out (by rw [HM.out]; omega)
    have hy : l[p]? = some y := by rw [hl', hp]; simp
    have HC := Lib.hid (fun k (hk : k < 3) => (HB1.out.cell (p := ⟨b, off + p * 3 + k, none⟩) hb).trans (hc p y hy k hk))
    have HRS := Lib.hid (show risesB l x = (decide (x.i > y.i) || (decide (x.i = y.i) && decide (x.j > y.j))) by rw [hl']; unfold risesB; simp)
    have HBL := Lib.hid (show b < w1.heap.size from Nat.lt_of_lt_of_le hb HB1.out.size)
    clear hc hy hl hl' hm1 hp H HM hb
    go_upto_region 4 with (first
      | (refine wpList_load_cells rfl 63 _ rfl b (off + p * 3) rfl 3 (coF y) _ HC.out Try.underlying63 rfl sizeCon ?_)
      | (refine wpList_alloc_seg rfl 63 rfl 3 (coF ⟨0, 0, 0⟩) zeroCon ?_; intro w2 h2 hB2 hs2)
      | (refine wpList_store_all rfl 63 _ _ rfl w1.heap.size 63 3 _ (coF y) rfl rfl h2 sizeCon (coF_one y) ?_; intro w3 h3 hT3 hs3))
    have hlt := H1.out.lt
    have hF := (H1.out.up hB2).touch hT3 (by have := H1.out.lt; omega)
    have hB := HB1.out.trans ((Below.trans hB2 (hT3.below (Nat.le_refl _) (by omega))).mono HB1.out.size)
    have x0 : w3.cell? ⟨gb, 0, none⟩ = some (.int .i64 x.i) := hF.cell 0 (by decide)
    have x1 : w3.cell? ⟨gb, 1, none⟩ = some (.int .i64 x.j) := hF.cell 1 (by decide)
    have y0 : w3.cell? ⟨w1.heap.size, 0, none⟩ = some (.int .i64 y.i) := h3.cell 0 (by decide)
    have y1 : w3.cell? ⟨w1.heap.size, 1, none⟩ = some (.int .i64 y.j) := h3.cell 1 (by decide)
    have HB := Lib.hid hB
    clear h2 hB2 hs2 h3 hT3 hs3 hF hB H1 HB1 HC HBL hlt HGB
    obtain ⟨xi, xj, xc⟩ := x
    obtain ⟨yi, yj, yc⟩ := y
    simp only at x0 x1 y0 y1 HRS
    by_cases h4 : yi < xi
    · have t4 : decide (yi < xi) = true := decide_eq_true h4
      have HR := Lib.hid (show risesB l ⟨xi, xj, xc⟩ = true by rw [HRS.out]; simp; omega)
      clear h4 HRS
      go_wp2_with fail
      go_ret
      exact ⟨ret_bool HR.out.symm, HB.out⟩
    · have t4 : decide (yi < xi) = false := decide_eq_false h4
      by_cases h5 : xi = yi
      · subst h5
        by_cases h6 : yj < xj
        · have t6 : decide (yj < xj) = true := decide_eq_true h6
          have HR := Lib.hid (show risesB l ⟨xi, xj, xc⟩ = true by rw [HRS.out]; simp; omega)
          clear h4 h6 HRS
          go_wp2_with fail
          go_ret
          exact ⟨ret_bool HR.out.symm, HB.out⟩
        · have t6 : decide (yj < xj) = false := decide_eq_false h6
          have HR := Lib.hid (show risesB l ⟨xi, xj, xc⟩ = false by rw [HRS.out]; simp; omega)
          clear h4 h6 HRS
          go_wp2_with fail
          go_ret
          exact ⟨ret_bool HR.out.symm, HB.out⟩
      · have t5 : (xi == yi) = false := by rw [beq_eq_false_iff_ne]; exact h5
        have HR := Lib.hid (show risesB l ⟨xi, xj, xc⟩ = false by rw [HRS.out]; simp [h5]; omega)
        clear h4 h5 HRS
        go_wp2_with fail
        go_ret
        exact ⟨ret_bool HR.out.symm, HB.out⟩
theorem en_con1 : ∀ (a : Array Value) (W : World), (callFunc 98 a).run Try.prog W = .ok (.enter 98 a) W := fun _ _ => by kernel_rfl
theorem con1_any (x i : Int) (q : Nat) (w : World) (h : w.cell? ⟨q, 0, none⟩ = some (.int .i64 i)) : Calls Try.prog 98 #[.int .i64 x, .pointer (some ⟨q, 0, none⟩)] w fun e w' => e = .returned (.bool (varB x && !decide (x = i))) ∧ w = w' := by
  cases h1 : varB x
  · go_enter Try.func98, Try.ntmps98
    go_wp2_with fail
    refine (variable_deed x _).mono ?_
    rintro e w' ⟨rfl, rfl⟩
    rw [h1]
    go_wp2_with fail
    go_ret
    exact ⟨rfl, rfl⟩
  · by_cases h2 : x = i
    · subst h2
      go_enter Try.func98, Try.ntmps98
      go_wp2_with fail
      refine (variable_deed x _).mono ?_
      rintro e w' ⟨rfl, rfl⟩
      rw [h1]
      go_wp2_with fail
      go_ret
      exact ⟨ret_bool (by simp), rfl⟩
    · have t2 : (x == i) = false := by rw [beq_eq_false_iff_ne]; exact h2
      have HD := Lib.hid (decide_eq_false h2)
      clear h2
      go_enter Try.func98, Try.ntmps98
      go_wp2_with fail
      refine (variable_deed x _).mono ?_
      rintro e w' ⟨rfl, rfl⟩
      rw [h1]
      go_wp2_with fail
      go_ret
      exact ⟨ret_bool (by rw [HD.out]; show (!(x == i)) = _; rw [t2]; rfl), rfl⟩
end Go.Proofs.Ytbomihdnnidelaa
