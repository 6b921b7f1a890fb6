/- CodeUnits: its walk. -/
import Derived.Test.YtaglclmfjopnlaaDoorLentI
namespace Go.Proofs.YtaglclmfjopnlaaDoor
open Go.ChangeShapes Go.WideShapes Go.ChangeAt Go.RowKit
open Cod Bits
set_option linter.unusedVariables false
set_option linter.unusedSimpArgs false

theorem OwnN.at_ {w : World} {base : Nat} {v : Value} {L : List Int} (h : OwnN w base v L) {m : Nat} (hm : L.length = m) : ∃ A c, v = .slice A m c ∧ IntsAt w A L ∧ ∀ b off, A = some ⟨b, off, none⟩ → base ≤ b := by
  obtain ⟨A, c, hv, hi⟩ := h.intsAt
  subst hm
  refine ⟨A, c, hv, hi, fun b off e => ?_⟩
  rcases h.2 with ⟨h0, _⟩ | ⟨g', cap, cur, hv', hg, _⟩
  · rw [h0] at hv; injection hv with e1; rw [← e1] at e; cases e
  · rw [hv'] at hv
    injection hv with e1
    rw [← e1] at e
    injection e with e
    injection e with e2
    omega
def withOp (i : Ins) (x : Int) : Ins := ⟨x, i.nar, i.reg, i.size, i.dst, i.src, i.off, i.imm⟩
/-- what the law holds ahead of its last line: the list that is lent, and numbers of units -/
structure UnitsEnd (w : World) (g n c : Nat) (M : List Ins) (Ab Aw : Option Addr) (U : List Int) (W : World) : Prop where
  lent : LentI w g n c M W
  got : IntsAt W Ab U
  want : IntsAt W Aw U
theorem UnitsEnd.up {w : World} {g n c : Nat} {M : List Ins} {Ab Aw : Option Addr} {U : List Int} {W W' : World} (h : UnitsEnd w g n c M Ab Aw U W) (hb : Below W.heap.size W W') : UnitsEnd w g n c M Ab Aw U W' :=
  ⟨h.lent.up hb, h.got.below' hb, h.want.below' hb⟩
set_option maxRecDepth 100000 in
set_option maxHeartbeats 8000000 in
theorem codeUnits_walk (w : World) (A : Option Addr) (n c : Nat) (L : List Ins) (hL : L.length = n) (hn : n ≤ 2513169434917) (h : CodeAt w A L) (hr : ∀ i ∈ L, i.rng) (ht : Tabs w) (hm : MarkAt w) :
    Calls Tryd.prog 7 #[.slice A n c] w fun e w' => e = .returned (.bool true) ∧ Below w.heap.size w w' := by
  have HK := Lib.hid (known_any w ht)
  have HA := Lib.hid h
  have HM := Lib.hid hm
  have HL := Lib.hid hL
  have HUL := Lib.hid (show (unitsL L).length = n + 1 by rw [unitsL_length, hL])
  clear h hm hL ht
  go_enter Tryd.func7, Tryd.ntmps7
  go_wp2_with fail
  refine HK.out.mono ?_
  rintro e w1 ⟨rfl, hB1⟩
  have HE := Lib.hid (lend_lent w1 A n c L HL.out (by omega) (HA.out.below hB1) (HM.out.below hB1) w hB1 HM.out.1)
  have HA1 := Lib.hid (HA.out.below hB1)
  clear hB1 HK HM HA
  go_wp2_with fail
  go_at_call 15
  refine HE.out.mono ?_
  rintro e w2 ⟨g, c1, rfl, hl2, hg2, hB2⟩
  have hgl := hl2.all.2.2.2
  have HU := Lib.hid (units_any w2 (some ⟨g, 0, none⟩) n c1 L HL.out (by omega) hl2.codeAt)
  have HX := Lib.hid hl2
  have HA2 := Lib.hid (HA1.out.below hB2)
  have HG := Lib.hid hgl
  clear hl2 hg2 hB2 hgl HE HA1
  go_wp2_with fail
  go_at_call 23
  refine HU.out.mono ?_
  rintro e w3 ⟨rfl, hblk, hB3⟩
  have HU3 := Lib.hid (units_any w3 (some ⟨g, 0, none⟩) n c1 L HL.out (by omega) (HX.out.up hB3).codeAt)
  have HX3 := Lib.hid (HX.out.up hB3)
  have HA3 := Lib.hid (HA2.out.below hB3)
  have HI3 := Lib.hid hblk.at_
  have HG3 := Lib.hid (Nat.lt_of_lt_of_le HG.out hB3.size)
  clear HU HX HA2 hblk hB3
  go_wp2_with fail
  go_at_call 23
  refine HU3.out.mono ?_
  rintro e w4 ⟨rfl, hblk, hB4⟩
  have HU4 := Lib.hid (refUnits_any w4 A n c L HL.out (by omega) (HA3.out.below hB4))
  have HX4 := Lib.hid (HX3.out.up hB4)
  have HA4 := Lib.hid (HA3.out.below hB4)
  have HI4 := Lib.hid (show IntsAt w4 (some ⟨w2.heap.size, 0, none⟩) (unitsL L) ∧ IntsAt w4 (some ⟨w3.heap.size, 0, none⟩) (unitsL L) from ⟨HI3.out.below' hB4, hblk.at_⟩)
  have HG4 := Lib.hid (Nat.lt_of_lt_of_le HG3.out hB4.size)
  clear HU3 HX3 HA3 HI3 hblk hB4
  go_wp2_with fail
  go_at_call 24
  refine HU4.out.mono ?_
  rintro e w5 ⟨v5, rfl, hown5, hB5⟩
  obtain ⟨A5, c5, rfl, hi5, hne5⟩ := hown5.at_ HUL.out
  have HI5 := Lib.hid (show IntsAt w5 (some ⟨w2.heap.size, 0, none⟩) (unitsL L) ∧ IntsAt w5 (some ⟨w3.heap.size, 0, none⟩) (unitsL L) ∧ IntsAt w5 A5 (unitsL L) from ⟨HI4.out.1.below' hB5, HI4.out.2.below' hB5, hi5⟩)
  have HN5 := Lib.hid (show ∀ b off, A5 = some ⟨b, off, none⟩ → b ≠ g from fun b off e => by have := hne5 b off e; have := HG4.out; omega)
  have HX5 := Lib.hid (HX4.out.up hB5)
  have HA5 := Lib.hid (HA4.out.below hB5)
  have HQ := Lib.hid (lawInts_yes w5 (some ⟨w2.heap.size, 0, none⟩) (n + 1) (n + 1) A5 c5 (unitsL L) HUL.out (by omega) HI5.out.1 HI5.out.2.2)
  clear hown5 hi5 hne5 hB5 HU4 HX4 HA4 HI4
  go_wp2_with fail
  go_at_call 25
  refine HQ.out.mono ?_
  rintro e w6 ⟨rfl, hB6⟩
  have HI6 := Lib.hid (show IntsAt w6 (some ⟨w3.heap.size, 0, none⟩) (unitsL L) ∧ IntsAt w6 A5 (unitsL L) from ⟨HI5.out.2.1.below' hB6, HI5.out.2.2.below' hB6⟩)
  have HX6 := Lib.hid (HX5.out.up hB6)
  have HA6 := Lib.hid (HA5.out.below hB6)
  have HQ6 := Lib.hid (lawInts_yes w6 (some ⟨w3.heap.size, 0, none⟩) (n + 1) (n + 1) A5 c5 (unitsL L) HUL.out (by omega) HI6.out.1 HI6.out.2)
  clear HI5 HX5 HA5 HQ hB6
  go_wp2_with fail
  go_at_call 25
  refine HQ6.out.mono ?_
  rintro e w7 ⟨rfl, hB7⟩
  have HE7 := Lib.hid (show UnitsEnd w g n c1 L (some ⟨w3.heap.size, 0, none⟩) A5 (unitsL L) w7 from ⟨HX6.out.up hB7, HI6.out.1.below' hB7, HI6.out.2.below' hB7⟩)
  have HS7 := Lib.hid (lawSame_yes w7 (some ⟨g, 0, none⟩) n c1 A c L HL.out (by omega) HE7.out.lent.codeAt (HA6.out.below hB7))
  clear HI6 HX6 HA6 HQ6 hB7
  go_wp2_with fail
  go_at_call 12
  refine HS7.out.mono ?_
  rintro e w8 ⟨rfl, hB8⟩
  have HE8 := Lib.hid (HE7.out.up hB8)
  have HH8 := Lib.hid (held_any w8 g n c1 w.heap.size L HL.out (by omega) HE8.out.lent.own HE8.out.lent.mark)
  clear HE7 HS7 hB8
  go_wp2_with fail
  go_at_call 18
  refine HH8.out.mono ?_
  rintro e w9 ⟨rfl, hB9⟩
  have HE9 := Lib.hid (HE8.out.up hB9)
  clear HE8 HH8 hB9
  by_cases hp : n = 0
  · have t0 : decide (0 < n) = false := decide_eq_false (by omega)
    clear hp
    go_wp2_with fail
    obtain ⟨M, hMM⟩ : ∃ M, M = L := ⟨_, rfl⟩
    have HE := Lib.hid (show UnitsEnd w g n c1 M (some ⟨w3.heap.size, 0, none⟩) A5 (unitsL L) w9 by rw [hMM]; exact HE9.out)
    clear HE9 t0 hMM
    generalize w9 = W at *
    have hML := HE.out.lent.len
    have HUM := Lib.hid (show (unitsL M).length = n + 1 by rw [unitsL_length, hML])
    have HML := Lib.hid hML
    have HU := Lib.hid (units_any W (some ⟨g, 0, none⟩) n c1 M hML (by omega) HE.out.lent.codeAt)
    clear hML
    go_wp2_with fail
    go_at_call 23
    refine HU.out.mono ?_
    rintro e wa ⟨rfl, hblk, hBa⟩
    have HEa := Lib.hid (HE.out.up hBa)
    have HIa := Lib.hid hblk.at_
    have hoe := ownI_empty wa
    have hbe := below_box wa (.cells #[] 41)
    have hca := HEa.out.lent.codeAt.below hbe
    have hsz : wa.heap.size ≤ (wa.alloc (.cells #[] 41)).heap.size := hbe.size
    have hlen1 : ([] : List Ins).length + n ≤ 2600000000000 := by simp; omega
    have HBE := Lib.hid hbe
    clear hblk hBa HU HE hbe
    go_wp2_with (at_builtin; (refine append_code Tryd.underlying25 ins_info _ rfl (.tmp 51) (.tmp 52) rfl wa.heap.size _ _ rfl hoe _ _ _ _ rfl HML.out hca hlen1 hsz ?_; intro vb wb hown hBb; clear hoe hca hlen1 hsz))
    rw [List.nil_append] at hown
    obtain ⟨Ab, cb, hvb, hcb⟩ := hown.codeAt
    rw [HML.out] at hvb
    subst hvb
    have hbb := HBE.out.trans hBb
    have HEb := Lib.hid (HEa.out.up hbb)
    have HIb := Lib.hid (HIa.out.below' hbb)
    have HRb := Lib.hid (refUnits_any wb Ab n cb M HML.out (by omega) hcb)
    clear hown hcb hbb hBb HEa HIa HBE
    go_wp2_with fail
    go_at_call 24
    refine HRb.out.mono ?_
    rintro e wc ⟨vc, rfl, hownc, hBc⟩
    obtain ⟨Ac, cc, rfl, hic, -⟩ := hownc.at_ HUM.out
    have HEc := Lib.hid (HEb.out.up hBc)
    have HQc := Lib.hid (lawInts_yes wc (some ⟨W.heap.size, 0, none⟩) (n + 1) (n + 1) Ac cc (unitsL M) HUM.out (by omega) (HIb.out.below' hBc) hic)
    clear hownc hic hBc HEb HIb HRb
    go_wp2_with fail
    go_at_call 25
    refine HQc.out.mono ?_
    rintro e wd ⟨rfl, hBd⟩
    have HEd := Lib.hid (HEc.out.up hBd)
    have HQd := Lib.hid (lawInts_yes wd (some ⟨w3.heap.size, 0, none⟩) (n + 1) (n + 1) A5 c5 (unitsL L) HUL.out (by omega) HEd.out.got HEd.out.want)
    clear HQc HEc hBd
    go_wp2_with fail
    go_at_call 25
    refine HQd.out.mono ?_
    rintro e we ⟨rfl, hBe⟩
    have HEe := Lib.hid (HEd.out.up hBe)
    clear HQd HEd hBe
    go_wp2_with fail
    go_ret
    exact ⟨rfl, HEe.out.lent.below⟩
  · have t0 : decide (0 < n) = true := decide_eq_true (by omega)
    have hp0 : 0 < n := by omega
    obtain ⟨i, hi⟩ : ∃ i, L[0]? = some i := ⟨L[0]'(by rw [HL.out]; omega), List.getElem?_eq_getElem _⟩
    have hx := HE9.out.lent.ins hi
    rw [Nat.zero_mul] at hx
    obtain ⟨x0, -⟩ := hx
    have f0 := HE9.out.lent.frozen 0
    have HP := Lib.hid (fun x => show UnitsEnd w g n c1 (L.set 0 (withOp i x)) (some ⟨w3.heap.size, 0, none⟩) A5 (unitsL L) (w9.setCell ⟨g, 0, none⟩ (.int .i64 x)) from by
      have h1 := HE9.out.lent.put (withOp i x) 0 (.int .i64 x) hi (by decide) rfl 0 rfl
      have hs : w9.heap.size ≤ (w9.setCell ⟨g, 0, none⟩ (.int .i64 x)).heap.size := by simp [World.setCell]
      exact ⟨h1.1, HE9.out.got.but hs h1.2 (fun b off e => by injection e with e; injection e with e1 e2; have := HG3.out; omega), HE9.out.want.but hs h1.2 HN5.out⟩)
    clear hi hp HE9
    go_wp2_with fail
    have HE := Lib.hid (HP.out (bits BinOp.xor IntKind.i64 i.op 1))
    clear HP t0 x0 f0
    generalize L.set 0 (withOp i (bits BinOp.xor IntKind.i64 i.op 1)) = M at HE
    generalize w9.setCell ⟨g, 0, none⟩ (.int .i64 (bits BinOp.xor IntKind.i64 i.op 1)) = W at *
    have hML := HE.out.lent.len
    have HUM := Lib.hid (show (unitsL M).length = n + 1 by rw [unitsL_length, hML])
    have HML := Lib.hid hML
    have HU := Lib.hid (units_any W (some ⟨g, 0, none⟩) n c1 M hML (by omega) HE.out.lent.codeAt)
    clear hML
    go_wp2_with fail
    go_at_call 23
    refine HU.out.mono ?_
    rintro e wa ⟨rfl, hblk, hBa⟩
    have HEa := Lib.hid (HE.out.up hBa)
    have HIa := Lib.hid hblk.at_
    have hoe := ownI_empty wa
    have hbe := below_box wa (.cells #[] 41)
    have hca := HEa.out.lent.codeAt.below hbe
    have hsz : wa.heap.size ≤ (wa.alloc (.cells #[] 41)).heap.size := hbe.size
    have hlen1 : ([] : List Ins).length + n ≤ 2600000000000 := by simp; omega
    have HBE := Lib.hid hbe
    clear hblk hBa HU HE hbe
    go_wp2_with (at_builtin; (refine append_code Tryd.underlying25 ins_info _ rfl (.tmp 51) (.tmp 52) rfl wa.heap.size _ _ rfl hoe _ _ _ _ rfl HML.out hca hlen1 hsz ?_; intro vb wb hown hBb; clear hoe hca hlen1 hsz))
    rw [List.nil_append] at hown
    obtain ⟨Ab, cb, hvb, hcb⟩ := hown.codeAt
    rw [HML.out] at hvb
    subst hvb
    have hbb := HBE.out.trans hBb
    have HEb := Lib.hid (HEa.out.up hbb)
    have HIb := Lib.hid (HIa.out.below' hbb)
    have HRb := Lib.hid (refUnits_any wb Ab n cb M HML.out (by omega) hcb)
    clear hown hcb hbb hBb HEa HIa HBE
    go_wp2_with fail
    go_at_call 24
    refine HRb.out.mono ?_
    rintro e wc ⟨vc, rfl, hownc, hBc⟩
    obtain ⟨Ac, cc, rfl, hic, -⟩ := hownc.at_ HUM.out
    have HEc := Lib.hid (HEb.out.up hBc)
    have HQc := Lib.hid (lawInts_yes wc (some ⟨W.heap.size, 0, none⟩) (n + 1) (n + 1) Ac cc (unitsL M) HUM.out (by omega) (HIb.out.below' hBc) hic)
    clear hownc hic hBc HEb HIb HRb
    go_wp2_with fail
    go_at_call 25
    refine HQc.out.mono ?_
    rintro e wd ⟨rfl, hBd⟩
    have HEd := Lib.hid (HEc.out.up hBd)
    have HQd := Lib.hid (lawInts_yes wd (some ⟨w3.heap.size, 0, none⟩) (n + 1) (n + 1) A5 c5 (unitsL L) HUL.out (by omega) HEd.out.got HEd.out.want)
    clear HQc HEc hBd
    go_wp2_with fail
    go_at_call 25
    refine HQd.out.mono ?_
    rintro e we ⟨rfl, hBe⟩
    have HEe := Lib.hid (HEd.out.up hBe)
    clear HQd HEd hBe
    go_wp2_with fail
    go_ret
    exact ⟨rfl, HEe.out.lent.below⟩
end Go.Proofs.YtaglclmfjopnlaaDoor
