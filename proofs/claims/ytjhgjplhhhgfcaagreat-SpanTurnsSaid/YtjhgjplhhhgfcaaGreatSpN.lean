/- Contracts of package span: corners; what a row in memory is. -/
import Derived.Test.YtjhgjplhhhgfcaaGreatSpL
namespace Go.Proofs.YtjhgjplhhhgfcaaGreat
open Go.ChangeShapes Go.WideShapes Go.ChangeAt Go.RowKit
open Spn
namespace Spc
set_option linter.unusedVariables false
set_option maxRecDepth 100000
/-- a function value that joins two operands' ends, in this world and all later ones -/
def JoinAt (w : World) (v : Value) (D : E → E → Prop) (J : E → E → Option E) : Prop :=
  ∃ (K : FuncId) (cap : Array Value), v = .func (.func K) #[] cap ∧ (∀ (a : Array Value) (W : World), (callFunc K a).run Tryz.prog W = .ok (.enter K a) W) ∧
    ∀ W, Below w.heap.size w W → ∀ al ah bl bh : Int, (⟨al, ah⟩ : E).ok → (⟨bl, bh⟩ : E).ok → D ⟨al, ah⟩ ⟨bl, bh⟩ → Calls Tryz.prog K (#[.agg #[.int .i64 al, .int .i64 ah], .agg #[.int .i64 bl, .int .i64 bh]] ++ cap) W (RetJ W (J ⟨al, ah⟩ ⟨bl, bh⟩))
theorem JoinAt.up {w w' : World} {v : Value} {D : E → E → Prop} {J : E → E → Option E} (h : JoinAt w v D J) (hb : Below w.heap.size w w') : JoinAt w' v D J := by
  obtain ⟨K, cap, e, he, hc⟩ := h
  exact ⟨K, cap, e, he, fun W hW => hc W (nx hb hW)⟩
theorem joinAt_plain {K : FuncId} {D : E → E → Prop} {J : E → E → Option E} (w : World) (he : ∀ (a : Array Value) (W : World), (callFunc K a).run Tryz.prog W = .ok (.enter K a) W)
    (h : ∀ W, ∀ al ah bl bh : Int, (⟨al, ah⟩ : E).ok → (⟨bl, bh⟩ : E).ok → D ⟨al, ah⟩ ⟨bl, bh⟩ → Calls Tryz.prog K #[.agg #[.int .i64 al, .int .i64 ah], .agg #[.int .i64 bl, .int .i64 bh]] W (RetJ W (J ⟨al, ah⟩ ⟨bl, bh⟩))) : JoinAt w (.func (.func K) #[] #[]) D J :=
  ⟨K, #[], rfl, he, fun W _ al ah bl bh h1 h2 h3 => by simpa using h W al ah bl bh h1 h2 h3⟩
/-- an exact arithmetic as a function value -/
def ExactK (K : FuncId) (D : Int → Int → Prop) (f : Int → Int → Option Int) : Prop :=
  (∀ (a : Array Value) (W : World), (callFunc K a).run Tryz.prog W = .ok (.enter K a) W) ∧ (∀ a b v, I64 a → f a b = some v → I64 v) ∧ ∀ a b W, I64 a → I64 b → D a b → Calls Tryz.prog K #[.int .i64 a, .int .i64 b] W (RetX W (f a b))
theorem ok_lo {r : E} (h : r.ok) : I64 r.lo := ⟨h.2.1, Int.le_trans h.1 h.2.2⟩
theorem ok_hi {r : E} (h : r.ok) : I64 r.hi := ⟨Int.le_trans h.2.1 h.1, h.2.2⟩
theorem or_at {P : Int → Prop} {a x y : Int} (h : a = x ∨ a = y) (hx : P x) (hy : P y) : P a := by
  rcases h with rfl | rfl
  · exact hx
  · exact hy
theorem enc115 : ∀ (a : Array Value) (W : World), (callFunc 117 a).run Tryz.prog W = .ok (.enter 117 a) W := fun _ _ => by kernel_rfl
theorem joinAt_corner {K : FuncId} {D : E → E → Prop} {D' : Int → Int → Prop} {f : Int → Int → Option Int} (hK : ExactK K D' f) (hD : ∀ a b : E, a.ok → b.ok → D a b → ∀ y, (y = b.lo ∨ y = b.hi) → ∀ x, D' x y)
    {w : World} {g : Nat} (hb : Blk w g 118 #[.func (.func K) #[] #[]]) : JoinAt w (.func (.func 117) #[] #[.pointer (some ⟨g, 0, none⟩)]) D (cornX f) := by
  refine ⟨117, #[.pointer (some ⟨g, 0, none⟩)], rfl, enc115, fun W hW al ah bl bh h1 h2 h3 => ?_⟩
  obtain ⟨he, hv, hc⟩ := hK
  have := corner_any K f al ah bl bh he (fun a b W' ha hb' => hc a b W' (or_at ha (ok_lo h1) (ok_hi h1)) (or_at hb' (ok_lo h2) (ok_hi h2)) (hD _ _ h1 h2 h3 b hb' a))
    (fun a b v ha _ e => hv a b v (or_at ha (ok_lo h1) (ok_hi h1)) e) g W (hb.up hW)
  simpa using this
set_option maxHeartbeats 1000000 in
theorem corners_any (K : FuncId) (w : World) : Calls Tryz.prog 85 #[.func (.func K) #[] #[]] w fun e w' => e = .returned (.func (.func 117) #[] #[.pointer (some ⟨w.heap.size, 0, none⟩)]) ∧ Blk w' w.heap.size 118 #[.func (.func K) #[] #[]] ∧ Below w.heap.size w w' := by
  have hmf : ∀ (fn : Fn) (first cap : Array Value) (w : World), (Instr.makeFunc fn first cap).run Tryz.prog w = .ok (.func fn first cap) w := fun _ _ _ _ => rfl
  go_enter Tryz.func85, Tryz.ntmps85
  go_wp2_with fail
  go_ret
  exact ⟨rfl, Blk.new w _ _, below_box' w _⟩
theorem fits_any {v r : Int} (h : fits v = some r) : I64 r := fits_I64 h
theorem en_plus : ExactK 86 (fun _ _ => True) plusX := ⟨fun _ _ => by kernel_rfl, fun a b v _ e => fits_I64 e, fun a b W ha hb _ => plus_any a b ha hb W⟩
theorem en_minus : ExactK 87 (fun _ _ => True) minusX := ⟨fun _ _ => by kernel_rfl, fun a b v _ e => fits_I64 e, fun a b W ha hb _ => minus_any a b ha hb W⟩
theorem en_times : ExactK 88 (fun _ _ => True) timesX := ⟨fun _ _ => by kernel_rfl, fun a b v _ e => fits_I64 e, fun a b W ha hb _ => times_any a b ha hb W⟩
theorem en_quot : ExactK 120 (fun _ b => b ≠ 0) quotX := ⟨fun _ _ => by kernel_rfl, fun a b v _ e => fits_I64 e, fun a b W ha hb h => quot_any a b ha hb h W⟩
theorem en_left : ExactK 139 (fun _ b => 0 ≤ b ∧ b ≤ 63) leftX := ⟨fun _ _ => by kernel_rfl, fun a b v _ e => fits_I64 e, fun a b W ha hb h => left_any a b ha h.1 h.2 W⟩
theorem shr_I64 {a : Int} (ha : I64 a) (k : Nat) : I64 (a / 2 ^ k) := by
  obtain ⟨g1, g2⟩ := ha
  rcases Int.le_total 0 a with hz | hz
  · have h1 := ediv_pow_anti hz (Nat.zero_le k)
    have h2 := Int.ediv_nonneg hz (Int.le_of_lt (pow2_pos k))
    rw [Int.pow_zero, Int.ediv_one] at h1
    unfold I64 LEAST TOP at *; omega
  · have g3 := ediv_pow_mono hz (Nat.zero_le k)
    have g4 : a / 2 ^ k ≤ 0 / 2 ^ k := Int.ediv_le_ediv (pow2_pos k) hz
    rw [Int.pow_zero, Int.ediv_one] at g3
    rw [Int.zero_ediv] at g4
    unfold I64 LEAST TOP at *; omega
theorem en_right : ExactK 140 (fun _ b => 0 ≤ b ∧ b ≤ 63) rightX := ⟨fun _ _ => by kernel_rfl, fun a b v ha e => by injection e with e; rw [← e]; exact shr_I64 ha _, fun a b W ha hb h => right_any a b h.1 h.2 W⟩
end Spc
end Go.Proofs.YtjhgjplhhhgfcaaGreat
