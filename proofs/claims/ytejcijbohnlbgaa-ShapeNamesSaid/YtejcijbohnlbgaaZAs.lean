/- Contracts of package zone: Assign, of what is right; the law's CopyInts, far. -/
import Derived.Test.YtejcijbohnlbgaaZY
import Derived.Test.YtejcijbohnlbgaaZQ
import Derived.Test.YtejcijbohnlbgaaZOpen
namespace Go.Proofs.Ytejcijbohnlbgaa
open Go.ChangeShapes Go.WideShapes Go.ChangeAt Go.RowKit
open Zon
set_option linter.unusedVariables false
set_option maxRecDepth 100000
def assignZ (z : Zn) (x y : Nat) (c : Int) : Zn := z.bind fun M => some (assignT M x y c)
set_option maxHeartbeats 1000000 in
theorem assignClo_any (w : World) (g b1 b2 b3 x y : Nat) (c : Int) (M : Tab) (hz : ZB w g false M) (hM : OkT M) (hx : x < 60) (hy : y < 60) (hc : rngB c = true)
    (h1 : w.cell? ⟨b1, 0, none⟩ = some (.int .i64 x)) (h2 : w.cell? ⟨b2, 0, none⟩ = some (.int .i64 y)) (h3 : w.cell? ⟨b3, 0, none⟩ = some (.int .i64 c)) :
    Calls Try.prog 53 #[.pointer (some ⟨g, 1, none⟩), .pointer (some ⟨b1, 0, none⟩), .pointer (some ⟨b2, 0, none⟩), .pointer (some ⟨b3, 0, none⟩)] w (AddPost w g (some (assignT M x y c))) := by
  have HC := Lib.hid (assign_any w g x y c false M hz hM hx hy hc)
  clear hz hM hc
  go_enter Try.func53, Try.ntmps53
  go_wp2_with fail
  go_at_call 54
  refine HC.out.mono ?_
  rintro e w4 ⟨rfl, hB, hT⟩
  have HB := Lib.hid hB
  have HT := Lib.hid hT
  clear hB hT HC h1 h2 h3
  go_wp2_with fail
  go_ret
  exact addPost_yes HT.out rfl HB.out
set_option maxHeartbeats 2000000 in
theorem Assign_law (w : World) (g : Nat) (z : Zn) (x y : Nat) (c : Int) (hz : ZoneAt w g z) (hx : x < 60) (hx1 : 1 ≤ x) (hy : y < 60) (hc : rngB c = true) :
    Calls Try.prog 17 #[.pointer (some ⟨g, 0, none⟩), .int .i64 x, .int .i64 y, .int .i64 c] w fun e w' => ∃ g', e = .returned (.tuple #[.pointer (some ⟨g', 0, none⟩), .int .i64 0]) ∧ ZoneAt w' g' (assignZ z x y c) ∧ Below w.heap.size w w' := by
  have HZ := Lib.hid hz
  have HCC := Lib.hid hc
  have r1 : renewB x = true := by unfold renewB; simp; omega
  have r2 : varB y = true := by unfold varB; simp; omega
  have c1 : (w.alloc (.cells #[.int .i64 x] 3)).heap.size = w.heap.size + 1 := by simp
  obtain ⟨w3, hw3⟩ : ∃ w3, w3 = ((w.alloc (.cells #[.int .i64 x] 3)).alloc (.cells #[.int .i64 y] 3)).alloc (.cells #[.int .i64 c] 3) := ⟨_, rfl⟩
  have k1 : w3.cell? ⟨w.heap.size, 0, none⟩ = some (.int .i64 x) := by rw [hw3]; simp [go_sem]
  have k2 : w3.cell? ⟨w.heap.size + 1, 0, none⟩ = some (.int .i64 y) := by rw [hw3]; simp [go_sem]
  have k3 : w3.cell? ⟨w.heap.size + 1 + 1, 0, none⟩ = some (.int .i64 c) := by rw [hw3]; simp [go_sem]
  have hb3 : Below w.heap.size w w3 := by rw [hw3]; exact (((Below.refl _ _).alloc (Nat.le_refl _) _).alloc (by simp) _).alloc (by simp; omega) _
  have hs3 : w3.heap.size = w.heap.size + 3 := by rw [hw3]; simp
  have HK1 := Lib.hid k1
  have HK2 := Lib.hid k2
  have HK3 := Lib.hid k3
  have HB3 := Lib.hid hb3
  have HS3 := Lib.hid hs3
  have HW3 := Lib.hid hw3
  clear k1 k2 k3 hb3 hs3 hw3 c1 hz
  rw [HW3.out] at HK1 HK2 HK3 HB3 HS3
  clear HW3 w3
  go_enter Try.func17, Try.ntmps17
  go_upto_region 5 with (first
    | (go_at_call 49; refine (renewable_any _ _).mono ?_; rintro e w' ⟨rfl, rfl⟩)
    | (go_at_call 51; refine (variable_any _ _).mono ?_; rintro e w' ⟨rfl, rfl⟩)
    | (go_at_call 52; refine (inRange_any _ _).mono ?_; rintro e w' ⟨rfl, rfl⟩))
  generalize ((w.alloc (.cells #[.int .i64 x] 3)).alloc (.cells #[.int .i64 y] 3)).alloc (.cells #[.int .i64 c] 3) = W3 at *
  clear r1 r2 hc
  go_wp2_with fail
  go_at_call 42
  refine (changed_any W3 g 53 #[.pointer (some ⟨w.heap.size, 0, none⟩), .pointer (some ⟨w.heap.size + 1, 0, none⟩), .pointer (some ⟨w.heap.size + 1 + 1, 0, none⟩)] z (fun M => some (assignT M x y c)) (fun _ _ => by kernel_rfl) (HZ.out.up HB3.out) (fun M N hM hN => ?_) (fun M W g' hM hW hg' hBW => ?_)).mono ?_
  · injection hN with e; subst e; exact okT_assign (HZ.out.ok M hM) x y c
  · have s1 := HS3.out
    have d1 : W.cell? ⟨w.heap.size, 0, none⟩ = some (.int .i64 x) := by rw [hBW.cell (p := ⟨w.heap.size, 0, none⟩) (by simp only; omega)]; exact HK1.out
    have d2 : W.cell? ⟨w.heap.size + 1, 0, none⟩ = some (.int .i64 y) := by rw [hBW.cell (p := ⟨w.heap.size + 1, 0, none⟩) (by simp only; omega)]; exact HK2.out
    have d3 : W.cell? ⟨w.heap.size + 1 + 1, 0, none⟩ = some (.int .i64 c) := by rw [hBW.cell (p := ⟨w.heap.size + 1 + 1, 0, none⟩) (by simp only; omega)]; exact HK3.out
    exact assignClo_any W g' _ _ _ x y c M hW (HZ.out.ok M hM) hx hy HCC.out d1 d2 d3
  rintro e w5 ⟨g', rfl, hg', hz', hB5⟩
  have HZ' := Lib.hid (show ZoneAt w5 g' (assignZ z x y c) from hz')
  have HB5 := Lib.hid (HB3.out.trans (hB5.mono HB3.out.size))
  clear hz' hB5 hg'
  go_wp2_with fail
  go_ret2
  exact ⟨g', rfl, HZ'.out, HB5.out⟩
/-- would a sum leave 64 bits? -/
def farB (a c : Int) : Bool := decide (0 < c ∧ 9223372036854775807 < a + c) || decide (c < 0 ∧ a + c < -9223372036854775808)
end Go.Proofs.Ytejcijbohnlbgaa
