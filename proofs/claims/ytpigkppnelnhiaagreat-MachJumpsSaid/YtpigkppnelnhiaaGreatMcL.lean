/- What the laws of package mach ask first: a program's run. -/
import Derived.Test.YtpigkppnelnhiaaGreatMcAb
namespace Go.Proofs.YtpigkppnelnhiaaGreat
open Go.ChangeShapes Go.WideShapes Go.ChangeAt Go.RowKit
open Cod Bits
set_option linter.unusedVariables false
set_option linter.unusedSimpArgs false
set_option maxRecDepth 100000
set_option maxHeartbeats 4000000 in
theorem new_no (w : World) (lo hi : Int) (ad : Addr) (c : Nat) (L : List Ins) (B : Option Addr) (m d : Nat) (hn : L.length ≤ 4096) (h1 : 1 ≤ L.length) (hC : CodeAt w (some ad) L) (ho : ∀ i ∈ L, i.op ≠ 21) (hlo : 0 ≤ lo ∧ lo ≤ hi ∧ hi ≤ 65535)
    (hk : (checkL L 0).2 ≠ 0) :
    Calls Tryz.prog 6 #[.agg #[.int .i64 lo, .int .i64 hi, .slice none 0 0, .slice none 0 0, .slice (some ad) L.length c], .agg #[.slice B m d, .slice none 0 0]] w fun e w' => e = .returned (.tuple #[.pointer none, .int .i64 1]) ∧ Below w.heap.size w w' := by
  have hP0 := (Blk.new w 26 #[.int .i64 lo, .int .i64 hi, .slice none 0 0, .slice none 0 0, .slice (some ad) L.length c]).alloc (.cells #[.slice B m d, .slice none 0 0] 29)
  have hB0 := box2 w (.cells #[.int .i64 lo, .int .i64 hi, .slice none 0 0, .slice none 0 0, .slice (some ad) L.length c] 26) (.cells #[.slice B m d, .slice none 0 0] 29)
  have hc0 := hC.below hB0
  clear hC
  go_enter Tryz.func6, Tryz.ntmps6
  go_upto_region 1 with (fail)
  generalize ((w.alloc (.cells #[.int .i64 lo, .int .i64 hi, .slice none 0 0, .slice none 0 0, .slice (some ad) L.length c] 26)).alloc (.cells #[.slice B m d, .slice none 0 0] 29)) = w0 at *
  have hwm := wellMade_v w0 lo hi (some ad) L.length c L rfl (by omega) h1 hc0 ho hlo
  rw [show ((checkL L 0).2 == 0) = false by rw [beq_eq_false_iff_ne]; exact hk] at hwm
  obtain ⟨⟨a0, a1, a2, a3, a4⟩, -⟩ := hP0.five
  clear hk ho hlo hc0 hP0
  go_wp2_with fail
  go_at_call 19
  refine hwm.mono ?_
  rintro e w1 ⟨rfl, hB1⟩
  go_wp2_with fail
  go_ret2
  exact ⟨rfl, hB0.trans (hB1.mono hB0.size)⟩
theorem copyB_v (w : World) (A : Option Addr) (n c : Nat) (L : List Int) (hL : L.length = n) (hlen : n ≤ 140737488355328) (h : BytesAt w A L) :
    Calls Tryz.prog 25 #[.slice A n c] w fun e w' => ∃ v, e = .returned v ∧ OwnB w' w.heap.size v L ∧ Below w.heap.size w w' := by
  have hown := OwnB.nil w w.heap.size
  go_enter Tryz.func25, Tryz.ntmps25
  go_wp2_with (at_builtin; (refine append_bytes Tryz.underlying22 byte_info _ rfl (.const (.slice none 0 0)) (.tmp 3) rfl w.heap.size _ _ rfl hown _ n c _ rfl hL h (by simpa using hlen) (Nat.le_refl _) ?_; intro v' w' hown' hB'))
  go_ret
  exact ⟨v', rfl, hown', hB'⟩
theorem Ran.form {base g : Nat} {P : Pg} {r : Int × St} {w w' : World} {e : Ending} (h : Ran base g P r w e w') : ∃ x A1 n1 c1 A2 n2 c2, e = .returned (.tuple #[.agg #[.int .i64 x, .slice A1 n1 c1, .slice none 0 0, .slice A2 n2 c2], .int .i64 r.1]) ∧ MAt w' base g P r.2 ∧ (r.1 = 0 → OutAt w' base r.2 (.agg #[.int .i64 x, .slice A1 n1 c1, .slice none 0 0, .slice A2 n2 c2])) ∧ (r.1 ≠ 0 → (.agg #[.int .i64 x, .slice A1 n1 c1, .slice none 0 0, .slice A2 n2 c2]) = Value.agg zeroOut) ∧ Below base w w' ∧ KeepT w w' := by
  obtain ⟨v, e1, hM, hF, h0, h1, hB, hK⟩ := h
  by_cases h2 : r.1 = 0
  · obtain ⟨vc, vn, ev, ho, hi⟩ := h0 h2
    obtain ⟨A1, c1, rfl⟩ := owns_slice ho
    obtain ⟨A2, c2, rfl⟩ := owns_slice hi
    exact ⟨_, _, _, _, _, _, _, by rw [e1, ev], hM, fun _ => by rw [← ev]; exact h0 h2, fun h3 => absurd h2 h3, hB, hK⟩
  · exact ⟨0, none, 0, 0, none, 0, 0, by rw [e1, h1 h2]; rfl, hM, fun h3 => absurd h3 h2, fun _ => rfl, hB, hK⟩
/-- what 'runs' answers -/
def RunsTo (X : List Int) (L : List Ins) (base : Nat) (w : World) (e : Ending) (w' : World) : Prop :=
  ∃ v, e = .returned (.tuple #[v, .int .i64 (runL ⟨L, goalsL L⟩ (doL ⟨L, goalsL L⟩) 1048576 (startSt X)).1]) ∧
    ((runL ⟨L, goalsL L⟩ (doL ⟨L, goalsL L⟩) 1048576 (startSt X)).1 = 0 → OutAt w' base (runL ⟨L, goalsL L⟩ (doL ⟨L, goalsL L⟩) 1048576 (startSt X)).2 v) ∧
    ((runL ⟨L, goalsL L⟩ (doL ⟨L, goalsL L⟩) 1048576 (startSt X)).1 ≠ 0 → v = .agg zeroOut) ∧ Below w.heap.size w w'
set_option maxHeartbeats 4000000 in
theorem runs_v (w : World) (ad : Addr) (c : Nat) (L : List Ins) (B : Option Addr) (m d : Nat) (X : List Int) (hn : L.length ≤ 4096) (h1 : 1 ≤ L.length) (hC : CodeAt w (some ad) L) (ho : ∀ i ∈ L, Plain i.op) (hw : ∀ i ∈ L, i.wrong = 0)
    (hk : (checkL L 0).2 = 0) (hXm : X.length = m) (hX : m ≤ 65535) (hB : BytesAt w B X) :
    Calls Tryz.prog 14 #[.slice (some ad) L.length c, .slice B m d] w (RunsTo X L w.heap.size w) := by
  have hO0 := Blk.new w 39 #[.int .i64 0, .slice none 0 0, .slice none 0 0, .slice none 0 0]
  have hB0 := box1 w (.cells #[.int .i64 0, .slice none 0 0, .slice none 0 0, .slice none 0 0] 39)
  have hc0 := hC.below hB0
  have hb0 := hB.below hB0
  have h21 : ∀ i ∈ L, i.op ≠ 21 := fun i hi => by have := ho i hi; unfold Plain at this; omega
  have hAb := Lib.hid (plain_able ⟨L, goalsL L⟩ hw ho (by simp [goalsL]) hn)
  clear hC hB hw ho
  obtain ⟨r, hr⟩ : ∃ r, runL ⟨L, goalsL L⟩ (doL ⟨L, goalsL L⟩) 1048576 (startSt X) = r := ⟨_, rfl⟩
  have HR := Lib.hid hr
  unfold RunsTo
  rw [hr]
  clear hr
  go_enter Tryz.func14, Tryz.ntmps14
  go_upto_region 1 with (fail)
  generalize (w.alloc (.cells #[.int .i64 0, .slice none 0 0, .slice none 0 0, .slice none 0 0] 39)) = w0 at *
  subst hXm
  have HCB := Lib.hid (copyB_v w0 B X.length d X rfl (by omega) hb0)
  have HO0 := Lib.hid hO0
  have HB0 := Lib.hid hB0
  have HC0 := Lib.hid hc0
  clear hO0 hB0 hc0 hb0
  go_wp2_with fail
  go_at_call 25
  refine HCB.out.mono ?_
  rintro e w1 ⟨v1, rfl, hv1, hB1⟩
  obtain ⟨A1, c1, rfl⟩ := owns_slice hv1
  have HNW := Lib.hid (new_yes w1 0 65535 ad c L A1 c1 X hn h1 (HC0.out.below hB1) h21 ⟨by decide, by decide, by decide⟩ hk (by omega) (ownB_at hv1) (own_ref hv1) ⟨by omega, by omega⟩)
  have HO1 := Lib.hid (HO0.out.up hB1)
  have HB1 := Lib.hid (HB0.out.trans (hB1.mono HB0.out.size))
  clear hB1 hv1 HC0 HCB HO0 h21
  go_wp2_with fail
  go_at_call 6
  refine HNW.out.mono ?_
  rintro e w2 ⟨g, rfl, hM2, hB2⟩
  have hO2 := HO1.out.up hB2
  have HB2 := Lib.hid (HB1.out.trans (hB2.mono HB1.out.size))
  have HSZ := Lib.hid HB1.out.size
  have HRN := Lib.hid (run_v (doL ⟨L, goalsL L⟩) hAb.out hM2 ⟨by show 0 < L.length; omega, by simp [goalsL], by show X.length ≤ 1048576; omega, by show 0 ≤ 1048576; omega⟩ 1048576 (by decide))
  rw [HR.out] at HRN
  clear hB2 HNW HO1 HB1 hM2
  have HO2 := Lib.hid hO2
  clear hO2
  go_wp2_with fail
  go_at_call 9
  refine HRN.out.mono ?_
  intro e w3 hran
  obtain ⟨x, B1, n1, d1, B2, n2, d2, rfl, hM3, h0, hne, hB3, hK3⟩ := hran.form
  have hO3 := hK3 _ _ _ HO2.out (by decide) (by decide) (by decide)
  obtain ⟨⟨b0, b1, b2, b3⟩, f0, f1, f2, f3⟩ := hO3.four
  have HO4 := Lib.hid (hO3.set4 (.int .i64 x) (.slice B1 n1 d1) (.slice none 0 0) (.slice B2 n2 d2))
  have hT := Touch.set4 (g := w.heap.size) w3 0 1 2 3 (.int .i64 x) (.slice B1 n1 d1) (.slice none 0 0) (.slice B2 n2 d2)
  have HB4 := Lib.hid ((HB2.out.trans (hB3.mono HSZ.out)).trans (hT.below (Nat.le_refl _) (Nat.le_trans HB2.out.size hB3.size)))
  have H0 := Lib.hid (fun h => ((h0 h).touch hO3 hT (by decide) (by decide)).mono HSZ.out)
  have HNE := Lib.hid hne
  clear hO3 hT hran hM3 h0 hne hB3 hK3 HO2 HRN HB2
  go_wp2_with fail
  exact bodyPost_ret (results_cell_tmp_row Tryz.results14 _ _ w.heap.size 39 #[.int .i64 x, .slice B1 n1 d1, .slice none 0 0, .slice B2 n2 d2] (0, 0) _ rfl HO4.out Tryz.underlying39 (by kernel_rfl) _ rfl) rfl ⟨_, rfl, H0.out, HNE.out, HB4.out⟩
set_option maxHeartbeats 4000000 in
theorem runs_no (w : World) (ad : Addr) (c : Nat) (L : List Ins) (B : Option Addr) (m d : Nat) (X : List Int) (hn : L.length ≤ 4096) (h1 : 1 ≤ L.length) (hC : CodeAt w (some ad) L) (ho : ∀ i ∈ L, i.op ≠ 21)
    (hk : (checkL L 0).2 ≠ 0) (hXm : X.length = m) (hX : m ≤ 65535) (hB : BytesAt w B X) :
    Calls Tryz.prog 14 #[.slice (some ad) L.length c, .slice B m d] w fun e w' => e = .returned (.tuple #[.agg zeroOut, .int .i64 1]) ∧ Below w.heap.size w w' := by
  have hO0 := Blk.new w 39 #[.int .i64 0, .slice none 0 0, .slice none 0 0, .slice none 0 0]
  have hB0 := box1 w (.cells #[.int .i64 0, .slice none 0 0, .slice none 0 0, .slice none 0 0] 39)
  have hc0 := hC.below hB0
  have hb0 := hB.below hB0
  clear hC hB
  go_enter Tryz.func14, Tryz.ntmps14
  go_upto_region 1 with (fail)
  generalize (w.alloc (.cells #[.int .i64 0, .slice none 0 0, .slice none 0 0, .slice none 0 0] 39)) = w0 at *
  subst hXm
  have HCB := Lib.hid (copyB_v w0 B X.length d X rfl (by omega) hb0)
  have HO0 := Lib.hid hO0
  have HB0 := Lib.hid hB0
  have HC0 := Lib.hid hc0
  clear hO0 hB0 hc0 hb0
  go_wp2_with fail
  go_at_call 25
  refine HCB.out.mono ?_
  rintro e w1 ⟨v1, rfl, hv1, hB1⟩
  obtain ⟨A1, c1, rfl⟩ := owns_slice hv1
  have HNW := Lib.hid (new_no w1 0 65535 ad c L A1 X.length c1 hn h1 (HC0.out.below hB1) ho ⟨by decide, by decide, by decide⟩ hk)
  have HO1 := Lib.hid (HO0.out.up hB1)
  have HB1 := Lib.hid (HB0.out.trans (hB1.mono HB0.out.size))
  clear hB1 hv1 HC0 HCB HO0 ho hk
  go_wp2_with fail
  go_at_call 6
  refine HNW.out.mono ?_
  rintro e w2 ⟨rfl, hB2⟩
  have hO3 := HO1.out.up hB2
  obtain ⟨⟨b0, b1, b2, b3⟩, f0, f1, f2, f3⟩ := hO3.four
  have HO4 := Lib.hid (hO3.set4 (.int .i64 0) (.slice none 0 0) (.slice none 0 0) (.slice none 0 0))
  have hT := Touch.set4 (g := w.heap.size) w2 0 1 2 3 (.int .i64 0) (.slice none 0 0) (.slice none 0 0) (.slice none 0 0)
  have HB4 := Lib.hid ((HB1.out.trans (hB2.mono HB1.out.size)).trans (hT.below (Nat.le_refl _) (Nat.le_trans HB1.out.size hB2.size)))
  clear hO3 hT hB2 HO1 HNW HB1
  go_wp2_with fail
  exact bodyPost_ret (results_cell_tmp_row Tryz.results14 _ _ w.heap.size 39 zeroOut (0, 0) _ rfl HO4.out Tryz.underlying39 (by kernel_rfl) _ rfl) rfl ⟨rfl, HB4.out⟩
end Go.Proofs.YtpigkppnelnhiaaGreat
