/- Texts in one: CodeChecksLaw CodeChecksEnd. -/
import Derived.Test.YtaglclmfjopnlaaDoorLentI
import Derived.Test.YtaglclmfjopnlaaDoorRefI
import Derived.Deep.DeepCutAuto
import Derived.Test.YtaglclmfjopnlaaDoorCodeEnd
import Derived.Test.YtaglclmfjopnlaaDoorOpenC
import Derived.Test.YtaglclmfjopnlaaDoorMarkEnd
/- CodeChecks: its walk. -/
namespace Go.Proofs.YtaglclmfjopnlaaDoor
open Go.ChangeShapes Go.WideShapes Go.ChangeAt Go.RowKit
open Cod Bits
set_option linter.unusedVariables false
set_option linter.unusedSimpArgs false

def withOff (i : Ins) (x : Int) : Ins := ⟨i.op, i.nar, i.reg, i.size, i.dst, i.src, x, i.imm⟩
set_option maxRecDepth 100000 in
set_option maxHeartbeats 8000000 in
theorem codeChecks_walk (w : World) (A : Option Addr) (n c : Nat) (L : List Ins) (hL : L.length = n) (hn : n ≤ 2513169434917) (h : CodeAt w A L) (hr : ∀ i ∈ L, i.rng) (ht : Tabs w) (hm : MarkAt w) :
    Calls Tryd.prog 5 #[.slice A n c] w fun e w' => e = .returned (.bool true) ∧ Below w.heap.size w w' := by
  have HK := Lib.hid (known_any w ht)
  have HA := Lib.hid h
  have HM := Lib.hid hm
  have HL := Lib.hid hL
  clear h hm hL ht
  go_enter Tryd.func5, Tryd.ntmps5
  go_wp2_with fail
  refine HK.out.mono ?_
  rintro e w1 ⟨rfl, hB1⟩
  have HE := Lib.hid (lend_lent w1 A n c L HL.out (by omega) (HA.out.below hB1) (HM.out.below hB1) w hB1 HM.out.1)
  have HA1 := Lib.hid (HA.out.below hB1)
  clear hB1 HK HM HA
  go_wp2_with fail
  go_at_call 15
  refine HE.out.mono ?_
  rintro e w2 ⟨g, c1, rfl, hl2, hg2, hB2⟩
  have HU := Lib.hid (check_any w2 (some ⟨g, 0, none⟩) n c1 L HL.out (by omega) hl2.codeAt)
  have HX := Lib.hid hl2
  have HA2 := Lib.hid (HA1.out.below hB2)
  clear hl2 hg2 hB2 HE HA1
  go_wp2_with fail
  go_at_call 19
  refine HU.out.mono ?_
  rintro e w3 ⟨rfl, hB3⟩
  have HU3 := Lib.hid (refCheck_any w3 A n c L HL.out (by omega) (HA2.out.below hB3))
  have HX3 := Lib.hid (HX.out.up hB3)
  have HA3 := Lib.hid (HA2.out.below hB3)
  clear HU HX HA2 hB3
  generalize (checkL L 0).1 = k0 at *
  generalize (checkL L 0).2 = k1 at *
  go_wp2_with fail
  go_at_call 20
  refine HU3.out.mono ?_
  rintro e w4 ⟨rfl, hB4⟩
  have HX4 := Lib.hid (HX3.out.up hB4)
  have HS4 := Lib.hid (lawSame_yes w4 (some ⟨g, 0, none⟩) n c1 A c L HL.out (by omega) HX4.out.codeAt (HA3.out.below hB4))
  clear HU3 HX3 HA3 hB4
  go_wp2_with fail
  go_at_call 12
  refine HS4.out.mono ?_
  rintro e w5 ⟨rfl, hB5⟩
  have HX5 := Lib.hid (HX4.out.up hB5)
  have HH5 := Lib.hid (held_any w5 g n c1 w.heap.size L HL.out (by omega) HX5.out.own HX5.out.mark)
  clear HS4 HX4 hB5
  go_wp2_with fail
  go_at_call 18
  refine HH5.out.mono ?_
  rintro e w6 ⟨rfl, hB6⟩
  have HX6 := Lib.hid (HX5.out.up hB6)
  clear HX5 HH5 hB6
  by_cases hp : n = 0
  · have t0 : decide (0 < n) = false := decide_eq_false (by omega)
    clear hp
    go_upto_region 10 with (fail)
    obtain ⟨M, hMM⟩ : ∃ M, M = L := ⟨_, rfl⟩
    have HE := Lib.hid (show LentI w g n c1 M w6 by rw [hMM]; exact HX6.out)
    clear HX6 t0 hMM
    generalize w6 = W at *
    have hML := HE.out.len
    have HML := Lib.hid hML
    have hoe := ownI_empty W
    have hbe := below_box W (.cells #[] 41)
    have hca := HE.out.codeAt.below hbe
    have hsz : W.heap.size ≤ (W.alloc (.cells #[] 41)).heap.size := hbe.size
    have hlen1 : ([] : List Ins).length + n ≤ 2600000000000 := by simp; omega
    have HBE := Lib.hid hbe
    clear hML hbe
    go_wp2_with (at_builtin; (refine append_code Tryd.underlying25 ins_info _ rfl (.tmp 59) (.tmp 60) rfl W.heap.size _ _ rfl hoe _ _ _ _ rfl HML.out hca hlen1 hsz ?_; intro vb wb hown hBb; clear hoe hca hlen1 hsz))
    rw [List.nil_append] at hown
    obtain ⟨Ab, cb, hvb, hcb⟩ := hown.codeAt
    rw [HML.out] at hvb
    subst hvb
    have hbb := HBE.out.trans hBb
    have HEb := Lib.hid (HE.out.up hbb)
    have HRb := Lib.hid (refCheck_any wb Ab n cb M HML.out (by omega) hcb)
    clear hown hcb hbb hBb HE HBE
    go_wp2_with fail
    go_at_call 20
    refine HRb.out.mono ?_
    rintro e wc ⟨rfl, hBc⟩
    have HEc := Lib.hid (HEb.out.up hBc)
    have HUc := Lib.hid (check_any wc (some ⟨g, 0, none⟩) n c1 M HML.out (by omega) HEc.out.codeAt)
    clear hBc HEb HRb
    generalize (checkL M 0).1 = k2 at *
    generalize (checkL M 0).2 = k3 at *
    go_wp2_with fail
    go_at_call 19
    refine HUc.out.mono ?_
    rintro e wd ⟨rfl, hBd⟩
    have HEd := Lib.hid (HEc.out.up hBd)
    clear HUc HEc hBd
    go_wp2_with fail
    go_ret
    exact ⟨rfl, HEd.out.below⟩
  · obtain ⟨m, rfl⟩ : ∃ m, n = m + 1 := ⟨n - 1, by omega⟩
    have t0 : decide (0 < m + 1) = true := decide_eq_true (by omega)
    obtain ⟨i, hi⟩ : ∃ i, L[m]? = some i := ⟨L[m]'(by rw [HL.out]; omega), List.getElem?_eq_getElem _⟩
    have hx := HX6.out.ins hi
    obtain ⟨-, -, -, -, -, -, x6, -⟩ := hx
    have f6 := HX6.out.frozen (m * 8 + 6)
    have hmc : ((m + 1 : Nat) : Int) - 1 = (m : Int) := by omega
    have HP := Lib.hid (fun x => show LentI w g (m + 1) c1 (L.set m (withOff i x)) (w6.setCell ⟨g, m * 8 + 6, none⟩ (.int .i64 x)) from
      (HX6.out.put (withOff i x) 6 (.int .i64 x) hi (by decide) rfl (m * 8 + 6) rfl).1)
    clear hi hp HX6
    go_upto_region 10 with (fail)
    have HE := Lib.hid (HP.out (bits BinOp.xor IntKind.i64 i.off 1))
    clear HP t0 x6 f6
    generalize L.set m (withOff i (bits BinOp.xor IntKind.i64 i.off 1)) = M at HE
    generalize w6.setCell ⟨g, m * 8 + 6, none⟩ (.int .i64 (bits BinOp.xor IntKind.i64 i.off 1)) = W at *
    generalize m + 1 = n at *
    have hML := HE.out.len
    have HML := Lib.hid hML
    have hoe := ownI_empty W
    have hbe := below_box W (.cells #[] 41)
    have hca := HE.out.codeAt.below hbe
    have hsz : W.heap.size ≤ (W.alloc (.cells #[] 41)).heap.size := hbe.size
    have hlen1 : ([] : List Ins).length + n ≤ 2600000000000 := by simp; omega
    have HBE := Lib.hid hbe
    clear hML hbe
    go_wp2_with (at_builtin; (refine append_code Tryd.underlying25 ins_info _ rfl (.tmp 59) (.tmp 60) rfl W.heap.size _ _ rfl hoe _ _ _ _ rfl HML.out hca hlen1 hsz ?_; intro vb wb hown hBb; clear hoe hca hlen1 hsz))
    rw [List.nil_append] at hown
    obtain ⟨Ab, cb, hvb, hcb⟩ := hown.codeAt
    rw [HML.out] at hvb
    subst hvb
    have hbb := HBE.out.trans hBb
    have HEb := Lib.hid (HE.out.up hbb)
    have HRb := Lib.hid (refCheck_any wb Ab n cb M HML.out (by omega) hcb)
    clear hown hcb hbb hBb HE HBE
    go_wp2_with fail
    go_at_call 20
    refine HRb.out.mono ?_
    rintro e wc ⟨rfl, hBc⟩
    have HEc := Lib.hid (HEb.out.up hBc)
    have HUc := Lib.hid (check_any wc (some ⟨g, 0, none⟩) n c1 M HML.out (by omega) HEc.out.codeAt)
    clear hBc HEb HRb
    generalize (checkL M 0).1 = k2 at *
    generalize (checkL M 0).2 = k3 at *
    go_wp2_with fail
    go_at_call 19
    refine HUc.out.mono ?_
    rintro e wd ⟨rfl, hBd⟩
    have HEd := Lib.hid (HEc.out.up hBd)
    clear HUc HEc hBd
    go_wp2_with fail
    go_ret
    exact ⟨rfl, HEd.out.below⟩
end Go.Proofs.YtaglclmfjopnlaaDoor
/- CodeChecks: for every input the law returns true, and each argument reads behind the call as it read before, in every world in which the program's three tables hold what the program's start lays (which the card ties to the program's text). -/
namespace Go.Proofs.YtaglclmfjopnlaaDoor
open Go.ChangeShapes Go.WideShapes Go.ChangeAt Go.RowKit
open Cod Bits
set_option linter.unusedVariables false
set_option maxRecDepth 100000
theorem codeChecks_contract (H : Type) (enc : TypeId × Value → H) (W : World) (base : Nat) (args : Array Value) (ds gs : List (DataW H)) (before : List MemPlace)
    (hval0 : ∀ (j : Nat) t v, Tryd.f5.params[j]? = some t → args[j]? = some v → Value.okWide Tryd.prog W .any base t v)
    (hW : DataW.Whole enc Tryd.prog Tryd.f5.params.toList Rows.codeChecksSpec.vars false W args.toList ds gs before)
    (hsz0 : (DataW.weightsEach Tryd.prog (Tryd.f5.params.toList ++ Rows.codeChecksSpec.plain.varTypes Tryd.prog) (ds ++ gs)).all (· ≤ reachBytes) = true) (hL : laidMetH Tryd.prog laid4 W) :
    Calls Tryd.prog 5 args W fun e W' => ∃ v, e = .returned v ∧ Rows.codeChecksSpec.post enc Tryd.prog Tryd.f5 false true false false W args v W' := by
  have hW' := hW
  have hval : ∀ (j : Nat) t v, Tryd.f5.params[j]? = some t → args[j]? = some v → Value.okWide Tryd.prog W .any base t v := hval0
  have hsz : (DataW.weightsEach Tryd.prog (Tryd.f5.params.toList ++ Rows.codeChecksSpec.plain.varTypes Tryd.prog) (ds ++ gs)).all (· ≤ reachBytes) = true := hsz0
  clear hsz0
  obtain ⟨p, q, hAA, hV, rfl, hfz, hnd⟩ := hW
  have hA : DataW.TrodAll enc Tryd.prog W 0 (fun _ => true) true Tryd.f5.params.toList args.toList ds p := hAA
  rw [Tryd.params5] at hA hval hsz
  obtain ⟨v0, vs0, d0, ds0, p0, q0, hargs, rfl, rfl, h0, r0⟩ := trodAll_cons hA
  obtain ⟨rfl, rfl, rfl⟩ := trodAll_nil r0
  obtain rfl : args = #[v0] := by cases args; simp_all
  obtain ⟨rfl, rfl⟩ := trodVars_none hV
  obtain ⟨A0, n0, c0, L0, rfl, hL0, hR0, hA0, hcc0, hd0⟩ := open_code (hval 0 25 v0 rfl rfl) h0
  have hr0 : n0 ≤ 2513169434917 := by
    rcases hd0 with ⟨_, h⟩ | ⟨xs, ys, hx, rfl⟩
    · omega
    · have := sized_slice hsz (j := 0) (t := 25) (e := 41) rfl rfl Tryd.underlying25
      rw [show Tryd.prog.bytesOf 41 = 56 by kernel_rfl] at this
      simp only [reachBytes] at this
      omega
  clear hAA
  refine (codeChecks_walk W A0 n0 c0 L0 hL0 (by omega) hA0 hR0 (tabs_of (laid_three hL)) (mark_of hL)).mono fun e W' ⟨he, hb⟩ => ?_
  subst he
  exact ⟨_, rfl, law_post laidOut Tryd.underlying4 rfl rfl (by decide +kernel) hW' rfl hb⟩
theorem codeChecks_met (os : Os) : laidMet Tryd.prog Rows.codeChecksRow.laid ((laidWorld4 os).forCall (fun _ _ => 0) ⟨#[], #[.slice none 0 0], []⟩).memory :=
  laidMet_of_run' 8 (by kernel_rfl) (by kernel_rfl)
theorem codeChecks_reads (os : Os) {H : Type} (enc : TypeId × Value → H) : ∃ places, DataW.whole enc Tryd.prog ((laidWorld4 os).forCall (fun _ _ => 0) ⟨#[], #[.slice none 0 0], []⟩).memory Tryd.f5.params.toList Rows.codeChecksSpec.vars false (#[.slice none 0 0] : Array Value).toList 8 = some ([.nil], [], places) :=
  ⟨[], by kernel_rfl⟩
set_option maxRecDepth 100000 in
theorem codeChecks_lifted (os : Os) (started : os.Started) (H : Type) (enc : TypeId × Value → H) (F : Stop.Interp) :
    ReturnsInHanded {} Tryd.checked os 5 .any ((OpenSpec.ofChange Rows.codeChecksSpec).preRow enc Tryd.prog Tryd.f5 Rows.codeChecksRow.domain false Rows.codeChecksRow.laid) (((OpenSpec.ofChange Rows.codeChecksSpec).at F).post enc Tryd.prog Tryd.f5 false true false false) := by
  obtain ⟨places, hx⟩ := codeChecks_reads os enc
  refine returnsInHanded_of_row (C := Tryd.checked) (s := (OpenSpec.ofChange Rows.codeChecksSpec)) own started (by kernel_rfl) Tryd.func5
    (witness_row_at (enc := enc) (C := Tryd.checked) false (laidWorld4 os) #[.slice none 0 0] rfl (by kernel_rfl) (by kernel_rfl) (by kernel_rfl)
      (OpenSpec.preRow_of_cond 8 hx (by kernel_rfl) (fun k hk => by cases hk) (by kernel_rfl) (codeChecks_met os))) ?_
  intro W base args ds gs before hval hW _ _ hsz hL _ _
  exact codeChecks_contract H enc W base args ds gs before hval hW hsz hL
theorem codeChecks_over : Rows.codeChecksRow.holds Tryd.pinned (OpenSpec.ofChange Rows.codeChecksSpec) :=
  OpenClaim.holds_of_cond 5 Tryd.f5 rfl rfl rfl rfl rfl rfl rfl ⟨rfl, rfl, rfl, rfl, rfl⟩ rfl rfl rfl rfl rfl (by kernel_rfl) Tryd.func5 (by kernel_rfl)
    (of_decide_eq_true (by kernel_rfl)) (by unfold Func.isWrapper; first | (rw [if_pos (by decide +kernel)]; kernel_rfl) | (rw [if_neg (by decide +kernel)]; exact ⟨rfl, rfl⟩))
    (fun os started H enc _ F => by rw [OpenClaim.pre_eq_preRow]; exact codeChecks_lifted os started H enc F)
theorem codeChecks_plain (f : FuncId) (fn : Func) (hf : Tryd.pinned.checked.prog.funcNamed "warrant/warrantlaw02.CodeChecks" = some f) (hfn : Tryd.pinned.checked.prog.funcs[f]? = some fn) :
    true = Tryd.pinned.checked.prog.looks [] ∧ ∀ (j : Nat) t, fn.params[j]? = some t → Tryd.pinned.checked.prog.wantsStandIn t = false := by
  obtain rfl : f = 5 := Option.some.inj ((show Tryd.prog.funcNamed "warrant/warrantlaw02.CodeChecks" = some 5 by kernel_rfl).symm.trans hf) |>.symm
  obtain rfl : fn = Tryd.f5 := (Option.some.inj (Tryd.func5.symm.trans hfn)).symm
  refine ⟨by kernel_rfl, fun j t ht => ?_⟩
  rw [Tryd.params5] at ht
  rcases j with _ | j
  · obtain rfl : 25 = t := Option.some.inj ht
    kernel_rfl
  simp at ht
theorem codeChecks_proved : Rows.CodeChecksCardSaid :=
  Claim7.holds_tied_plain_at .later [] _ _ _ _ codeChecks_over (fun _ h => by cases h) (by kernel_rfl) (fun _ h => by cases h) codeChecks_row_tie rfl ⟨rfl, rfl⟩ (by kernel_rfl) rfl codeChecks_plain (by kernel_rfl)
#print axioms codeChecks_proved
end Go.Proofs.YtaglclmfjopnlaaDoor
