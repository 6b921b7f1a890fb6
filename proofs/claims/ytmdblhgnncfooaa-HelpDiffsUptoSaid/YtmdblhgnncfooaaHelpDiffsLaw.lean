/- HelpDiffs: the walk. -/
import Derived.Test.YtmdblhgnncfooaaHLaw
namespace Go.Proofs.Ytmdblhgnncfooaa
open Go.ChangeShapes Go.WideShapes Go.ChangeAt Go.RowKit
open Bits HM
set_option linter.unusedVariables false
set_option linter.unusedSimpArgs false

theorem OutH.keep {w0 w w' : World} {g r n m g' : Nat} {r' : Option Nat} {L : List Int} (h : OutH w0 g r n m L w) (hb : Below w0.heap.size w0 w') (hk : Keep2 g' r' w w') (h1 : g ≠ g') (h2 : some g ≠ r') (h3 : r ≠ g') (h4 : some r ≠ r') : OutH w0 g r n m L w' := by
  obtain ⟨q1, q2, q3, q4, q5, q6, q7, D, q8, q9⟩ := h
  exact ⟨q1, q2, q3, q4, q5, q6, hb, D, lent_keep q8 hk h1 h2 h3 h4, q9⟩
theorem OutH.lt {w0 w : World} {g r n m : Nat} {L : List Int} (h : OutH w0 g r n m L w) : g < w.heap.size ∧ r < w.heap.size ∧ r ≠ g := by
  obtain ⟨q1, q2, q3, q4, q5, q6, q7, D, q8, q9⟩ := h
  exact ⟨q8.2.2.lt, q8.2.1.lt, q8.1⟩
theorem BackH.keep {w0 w w' : World} {r n m g' : Nat} {r' : Option Nat} {T : List Int} (h : BackH w0 r n m T w) (hk : Keep2 g' r' w w') (hs : w.heap.size ≤ w'.heap.size) (h3 : r ≠ g') (h4 : some r ≠ r') : BackH w0 r n m T w' := by
  obtain ⟨q1, q2, q3, q4, q5, q6, q7⟩ := h
  refine ⟨q1, q2, q3, q4, q5, fun hp => ?_, by omega⟩
  obtain ⟨b, off, e, hlt, hc⟩ := q6 hp
  have eb : r = b := by injection e with e; injection e with e1 e2
  exact ⟨b, off, e, by omega, fun i hi => (World.cell?_of_block (w := w) (a := ⟨b, off + i, none⟩) (hk b hlt (by omega) (by rw [← eb]; exact h4))).trans (hc i hi)⟩

set_option maxRecDepth 100000 in
set_option maxHeartbeats 1600000 in
theorem helpDiffs_walk (w : World) (A0 : Option Addr) (n0 c0 : Nat) (L0 : List Int) (hL0 : L0.length = n0) (hr0 : n0 ≤ c0 ∧ c0 ≤ maxLen ∧ n0 ≤ 1048576) (hY0 : Byt L0) (hA0 : BytesAt w A0 L0)
    (A1 : Option Addr) (n1 c1 : Nat) (L1 : List Int) (hL1 : L1.length = n1) (hr1 : n1 ≤ c1 ∧ c1 ≤ maxLen ∧ n1 ≤ 1048576) (hY1 : Byt L1) (hA1 : BytesAt w A1 L1) :
    Calls Try.prog 6 #[.slice A0 n0 c0, .slice A1 n1 c1] w fun e w' => e = .returned (.bool true) ∧ Below w.heap.size w w' := by
  have hk := Lib.hid (known_any w)
  have HL0 := Lib.hid hL0
  have HY0 := Lib.hid hY0
  have HA0 := Lib.hid hA0
  have HL1 := Lib.hid hL1
  have HY1 := Lib.hid hY1
  have HA1 := Lib.hid hA1
  obtain ⟨p1, p2, p3⟩ := hr0
  obtain ⟨q1, q2, q3⟩ := hr1
  have hnot : ∀ (x : Bool) (w : World), (Op.unary .not (.bool x)).run Try.prog w = .ok (.bool (!x)) w := runNot
  clear hL0 hY0 hA0 hL1 hY1 hA1
  go_enter Try.func6, Try.ntmps6
  go_wp2_with fail
  refine hk.out.mono ?_
  rintro e w1 ⟨rfl, hB⟩
  clear hk
  have hsz := hB.size
  go_upto_region 4 with (fail)
  have hg : Blk ((w1.alloc (.cells #[.slice none 0 0] 40)).alloc (.cells #[.slice none 0 0] 40)) w1.heap.size 40 #[.slice none 0 0] := (Blk.new _ _ _).alloc _
  have hh : Blk ((w1.alloc (.cells #[.slice none 0 0] 40)).alloc (.cells #[.slice none 0 0] 40)) (w1.heap.size + 1) 40 #[.slice none 0 0] := blk_new2 _ _ _ _
  have hB1 : Below w.heap.size w ((w1.alloc (.cells #[.slice none 0 0] 40)).alloc (.cells #[.slice none 0 0] 40)) := (hB.alloc hsz _).alloc (by simp; omega) _
  generalize (w1.alloc (.cells #[.slice none 0 0] 40)).alloc (.cells #[.slice none 0 0] 40) = w2 at *
  obtain ⟨g, hgd⟩ : ∃ g, g = w1.heap.size := ⟨_, rfl⟩
  obtain ⟨h, hhd⟩ : ∃ h, h = w1.heap.size + 1 := ⟨_, rfl⟩
  rw [← hhd] at hh ⊢
  rw [← hgd] at hg ⊢
  have hgh : g ≠ h := by omega
  have hwg : w.heap.size ≤ g := by omega
  have hwh : w.heap.size ≤ h := by omega
  have hhlt := hh.lt
  clear hgd hhd hsz hB
  have hle := Lib.hid (lend_new hg hB1 hwg A0 n0 c0 L0 HL0.out HY0.out p3 HA0.out)
  go_wp2_with fail
  refine hle.out.mono ?_
  rintro e w3 ⟨r, m, rfl, hO, hr, hK⟩
  have hh3 : Blk w3 h 40 #[.slice none 0 0] := (hK h hhlt (Ne.symm hgh) (fun e => by injection e with e; omega)).trans hh
  have hB3 := hO.2.2.2.2.2.2.1
  have hrh : r ≠ h := by omega
  clear hle hg hB1 hh hK hr hhlt
  have hle := Lib.hid (lend_new hh3 hB3 hwh A1 n1 c1 L1 HL1.out HY1.out q3 HA1.out)
  go_wp2_with fail
  refine hle.out.mono ?_
  rintro e w4 ⟨s, k, rfl, hP, hs, hK⟩
  have hB4 := hP.2.2.2.2.2.2.1
  have hlt3 := hO.lt
  have hgs : g ≠ s := by omega
  have hrs : r ≠ s := by omega
  have hO4 : OutH w g r n0 m L0 w4 := hO.keep hB4 hK hgh (fun e => by injection e with e; omega) hrh (fun e => by injection e with e; omega)
  have hsh := hP.lt.2.2
  clear hle hh3 hB3 hO hs hK hlt3
  have hd := Lib.hid (diff_any w4 (some ⟨r, 0, none⟩) (some ⟨s, 0, none⟩) n0 n1 m k L0 L1 HL0.out HL1.out hO4.bytes hP.bytes HY0.out HY1.out)
  go_wp2_with fail
  refine hd.out.mono ?_
  rintro e w5 ⟨rfl, rfl⟩
  clear hd
  have hd := Lib.hid (refDiff_any w4 A0 A1 n0 n1 c0 c1 L0 L1 HL0.out HL1.out (by omega) (by omega) (HA0.out.below hB4) (HA1.out.below hB4) HY0.out HY1.out)
  generalize diffV L0 L1 = S at *
  go_wp2_with fail
  refine hd.out.mono ?_
  rintro e w5 ⟨rfl, rfl⟩
  clear hd
  have hbk := Lib.hid (back_new hO4 A0 c0 HA0.out)
  go_wp2_with fail
  refine hbk.out.mono ?_
  rintro e w6 ⟨rfl, hB6, hK6, hs6, T0, hT0⟩
  have hP6 : OutH w h s n1 k L1 w6 := hP.keep hB6 hK6 (Ne.symm hgh) (fun e => by injection e with e; omega) (Ne.symm hgs) (fun e => by injection e with e; omega)
  clear hbk hO4 hP hB4 hK6 hs6 hB6
  have hbk := Lib.hid (back_new hP6 A1 c1 HA1.out)
  go_wp2_with fail
  refine hbk.out.mono ?_
  rintro e w7 ⟨rfl, hB7, hK7, hs7, T1, hT1⟩
  have hU0 : BackH w r n0 m T0 w7 := hT0.keep hK7 hs7 hrh (fun e => by injection e with e; omega)
  clear hbk hP6 hK7 hs7 hT0
  have hd := Lib.hid (diff_any w7 (some ⟨r, 0, none⟩) (some ⟨s, 0, none⟩) n0 n1 m k T0 T1 hU0.2.1 hT1.2.1 hU0.2.2.2.2.2.1 hT1.2.2.2.2.2.1 hU0.2.2.1 hT1.2.2.1)
  go_wp2_with fail
  refine hd.out.mono ?_
  rintro e w8 ⟨rfl, rfl⟩
  clear hd
  have hcp := Lib.hid (copyBytes_own w7 (some ⟨r, 0, none⟩) n0 m T0 hU0.2.1 (by omega) hU0.2.2.2.2.2.1)
  go_wp2_with fail
  refine hcp.out.mono ?_
  rintro e w9 ⟨v, rfl, hown, hB9⟩
  obtain ⟨A3, c3, rfl, hat3, -, -⟩ := ownB_slice hown
  rw [hU0.2.1]
  have hU9 := hU0.below hB9
  have hT9 := hT1.below hB9
  have hBB9 := hB7.trans (hB9.mono hB7.size)
  clear hcp hown hB9 hU0 hT1 hB7
  have hcp := Lib.hid (copyBytes_own w9 (some ⟨s, 0, none⟩) n1 k T1 hT9.2.1 (by omega) hT9.2.2.2.2.2.1)
  go_wp2_with fail
  refine hcp.out.mono ?_
  rintro e w10 ⟨v, rfl, hown, hB10⟩
  obtain ⟨A4, c4, rfl, hat4, -, -⟩ := ownB_slice hown
  rw [hT9.2.1]
  have hU10 := hU9.below hB10
  have hat3' := hat3.below hB10
  have hB11 := hBB9.trans (hB10.mono hBB9.size)
  have hTL1 := hT9.2.1
  have hTY1 := hT9.2.2.1
  clear hcp hown hB10 hU9 hT9 hBB9 hat3
  have hd := Lib.hid (refDiff_any w10 A3 A4 n0 n1 c3 c4 T0 T1 hU10.2.1 hTL1 (by omega) (by omega) hat3' hat4 hU10.2.2.1 hTY1)
  generalize diffV T0 T1 = S2 at *
  go_wp2_with fail
  refine hd.out.mono ?_
  rintro e w11 ⟨rfl, rfl⟩
  clear hd
  have hd := diff_any w10 (some ⟨r, 0, none⟩) (some ⟨r, 0, none⟩) n0 n0 m m T0 T0 hU10.2.1 hU10.2.1 hU10.2.2.2.2.2.1 hU10.2.2.2.2.2.1 hU10.2.2.1 hU10.2.2.1
  rw [diffV_self] at hd
  have hd := Lib.hid hd
  clear hU10 hat3' hat4
  go_wp2_with fail
  refine hd.out.mono ?_
  rintro e w11 ⟨rfl, rfl⟩
  go_wp2_with fail
  go_ret
  exact ⟨by simp, hB11⟩
end Go.Proofs.Ytmdblhgnncfooaa
