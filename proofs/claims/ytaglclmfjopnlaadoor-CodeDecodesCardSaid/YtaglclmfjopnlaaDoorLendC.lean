/- The lender of instructions: lend and held of the laws of package code; numbers that a call owns. -/
import Derived.Test.YtaglclmfjopnlaaDoorCodeJ1
import Derived.Deep.QuietTactic
namespace Go.Proofs.YtaglclmfjopnlaaDoor
open Go.ChangeShapes Go.WideShapes Go.ChangeAt Go.RowKit
open Cod Bits
set_option linter.unusedVariables false
set_option linter.unusedSimpArgs false

def markI : Ins := ⟨-77, false, false, -77, -77, -77, -77, -77⟩
/-- the law's mark lies where its start laid it -/
def MarkAt (w : World) : Prop := 0 < w.heap.size ∧ InsIs w 0 0 markI
theorem MarkAt.below {w w' : World} (h : MarkAt w) (hb : Below w.heap.size w w') : MarkAt w' := ⟨Nat.lt_of_lt_of_le h.1 hb.size, h.2.below hb h.1⟩
theorem two_marks_at (w : World) : CodeAt (w.alloc (.cells ([markI, markI].flatMap Ins.cells).toArray 41)) (some ⟨w.heap.size, 0, none⟩) [markI, markI] := codeAt_cells (by simp) fun m v hm => by
  rw [(Blk.new w 41 ([markI, markI].flatMap Ins.cells).toArray).cell m]
  simpa using hm
theorem own_split {w : World} {base n : Nat} {v : Value} {L : List Ins} (h : OwnI w base v L) (hL : L.length = n) (hp : 0 < n) : ∃ g cap, v = .slice (some ⟨g, 0, none⟩) n cap ∧ (n : Int) ≤ (cap : Int) ∧ base ≤ g ∧ g < w.heap.size := by
  rcases h.2 with ⟨_, h0⟩ | ⟨g, cap, cur, hv, hg, hh, hnc, _⟩
  · omega
  · refine ⟨g, cap, by rw [hv, hL], by omega, hg, ?_⟩
    rcases Nat.lt_or_ge g w.heap.size with h1 | h1
    · exact h1
    · rw [Array.getElem?_eq_none h1] at hh; cases hh
theorem le_of_two {n c : Nat} (h : ((n + 2 : Nat) : Int) ≤ (c : Int)) : (n : Int) ≤ (c : Int) := by omega
theorem lend_any (w : World) (A : Option Addr) (n c : Nat) (L : List Ins) (hL : L.length = n) (hn : n ≤ 2513169434917) (h : CodeAt w A L) (hm : MarkAt w) :
    Calls Tryd.prog 15 #[.slice A n c] w fun e w' => ∃ g c', e = .returned (.slice (some ⟨g, 0, none⟩) n c') ∧ OwnI w' w.heap.size (.slice (some ⟨g, 0, none⟩) (n + 2) c') (L ++ [markI, markI]) ∧ Below w.heap.size w w' := by
  have hoe := ownI_empty w
  have hbe := below_box w (.cells #[] 41)
  have hca := h.below hbe
  have hsz : w.heap.size ≤ (w.alloc (.cells #[] 41)).heap.size := by simp
  have hlen1 : ([] : List Ins).length + n ≤ 2600000000000 := by simp; omega
  have hlen2 : (([] : List Ins) ++ L).length + 2 ≤ 2600000000000 := by rw [List.nil_append]; omega
  have hlen3 : (([] : List Ins) ++ L ++ [markI, markI]).length = n + 2 := by simp [hL]
  have hpos : 0 < n + 2 := by omega
  have HM := Lib.hid hm
  have HL := Lib.hid hL
  have HB := Lib.hid hbe
  clear h hm hL hbe
  go_enter Tryd.func15, Tryd.ntmps15
  go_wp2_with (first | (at_builtin; (refine append_code Tryd.underlying25 ins_info _ rfl (.tmp 4) (.tmp 5) rfl w.heap.size _ _ rfl hoe _ _ _ _ rfl HL.out hca hlen1 hsz ?_; intro v9 w9 hown9 hB9; have hb9 := HB.out.trans hB9; have hm9 := (HM.out.below hb9).2; obtain ⟨m0, m1, m2, m3, m4, m5, m6, m7⟩ := hm9; simp only [markI, Nat.zero_add] at m0 m1 m2 m3 m4 m5 m6 m7; have hown10 := World.ownsRow.alloc hown9 (.cells ([markI, markI].flatMap Ins.cells).toArray 41); have hcm := two_marks_at w9; have hs9 := Nat.le_trans hb9.size (below_box w9 (.cells ([markI, markI].flatMap Ins.cells).toArray 41)).size; have hbm := hb9.trans ((below_box w9 (.cells ([markI, markI].flatMap Ins.cells).toArray 41)).mono hb9.size); clear hoe hca)) | (at_builtin; (refine append_code Tryd.underlying25 ins_info _ rfl (.tmp 7) (.tmp 10) rfl w.heap.size _ _ rfl hown10 _ _ _ _ rfl rfl hcm hlen2 hs9 ?_; intro v11 w11 hown11 hB11; have hb11 := hbm.trans hB11; obtain ⟨g, cap, hv, hnc, -, -⟩ := own_split (n := n + 2) hown11 hlen3 hpos; subst hv; have hnc2 := le_of_two hnc; clear hnc hown10 hcm m0 m1 m2 m3 m4 m5 m6 m7)))
  go_ret
  rw [List.nil_append] at hown11
  exact ⟨g, cap, rfl, hown11, hb11⟩
theorem held_any (w : World) (g n c base : Nat) (L : List Ins) (hL : L.length = n) (hn : n ≤ 2513169434917) (hown : OwnI w base (.slice (some ⟨g, 0, none⟩) (n + 2) c) (L ++ [markI, markI])) (hm : MarkAt w) :
    Calls Tryd.prog 18 #[.slice (some ⟨g, 0, none⟩) n c] w fun e w' => e = .returned (.bool true) ∧ Below w.heap.size w w' := by
  have hlen : (L ++ [markI, markI]).length = n + 2 := by simp [hL]
  obtain ⟨hnc, hca⟩ : n + 2 ≤ c ∧ CodeAt w (some ⟨g, 0, none⟩) (L ++ [markI, markI]) := by
    obtain ⟨A, c', e, h2⟩ := hown.codeAt
    injection e with e1 e2 e3
    subst e1 e3
    rcases hown.2 with ⟨h0, _⟩ | ⟨g', cap, cur, hv, hg, hh, hnc, _⟩
    · cases h0
    · injection hv with e1 e2 e3
      subst e3
      exact ⟨by rw [hlen] at hnc; exact hnc, h2⟩
  obtain ⟨b, off, e, hbl, hc⟩ := hca (by omega)
  injection e with e; injection e with e1 e2; subst e1 e2
  have h1 := hc n markI (by rw [List.getElem?_append_right (by omega), hL]; simp)
  have h2 := hc (n + 1) markI (by rw [List.getElem?_append_right (by omega), hL, show n + 1 - n = 1 by omega]; rfl)
  obtain ⟨m0, m1, m2, m3, m4, m5, m6, m7⟩ := hm.2
  obtain ⟨x0, x1, x2, x3, x4, x5, x6, x7⟩ := h1
  obtain ⟨y0, y1, y2, y3, y4, y5, y6, y7⟩ := h2
  simp only [markI, Nat.zero_add] at m0 m1 m2 m3 m4 m5 m6 m7 x0 x1 x2 x3 x4 x5 x6 x7 y0 y1 y2 y3 y4 y5 y6 y7
  have hci : (n : Int) + 2 ≤ (c : Int) := by omega
  clear hca hc hlen hown hm hL
  go_enter Tryd.func18, Tryd.ntmps18
  go_wp2_with fail
  go_quiet (fail)
  go_wp2_with fail
  go_ret
  exact ⟨rfl, belowDrewN (Below.refl _ _) _⟩
end Go.Proofs.YtaglclmfjopnlaaDoor
