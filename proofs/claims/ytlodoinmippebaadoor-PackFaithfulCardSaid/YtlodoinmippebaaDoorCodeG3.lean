/- Package code: (*reader).ins where it gives up early. -/
import Derived.Test.YtlodoinmippebaaDoorCodeG2
namespace Go.Proofs.YtlodoinmippebaaDoor
open Go.ChangeShapes Go.WideShapes Go.ChangeAt Go.RowKit
open Cod Bits
set_option linter.unusedVariables false
set_option linter.unusedSimpArgs false

theorem RS.next {w0 : World} {g : Nat} {A A' : Option Addr} {n c n' c' : Nat} {un un' bg : Int} {gr gv gu gi : Nat} {v u : U} {i : Ins} {w w' : World} (h : RS w0 g A n c un bg gr gv gu gi v u i w) (hb : But g w w') (hr : Blk w' g 112 (rd3 A' n' c' un' bg)) (h1 : gr ≠ g) (h2 : gv ≠ g) (h3 : gu ≠ g) (h4 : gi ≠ g) (h5 : 3 ≤ g) : RS w0 g A' n' c' un' bg gr gv gu gi v u i w' :=
  ⟨hb.blk h.res h1, hb.blk h.v h2, hb.blk h.u h3, hb.blk h.i h4, h.but.trans hb, hr, hb.tabs h.tabs h5⟩

theorem ins_short (g : Nat) (A : Option Addr) (n c : Nat) (un bg : Int) (w : World) (hb : Blk w g 112 (rd3 A n c un bg)) (hn : n < 8) :
    Calls Tryd.prog 66 #[.pointer (some ⟨g, 0, none⟩)] w fun e w' => e = .panicked [{ v := .iface 34 (.int .i64 20), recovered := false }] ∧ But g w w' ∧ Blk w' g 112 (rd3 A n c un bg) := by
  have HB := Lib.hid (below_box2 w (.cells (ins8 0 false false 0 0 0 0 0) 71) (.cells (un5 0 0 0 0 0) 106))
  have hgl := hb.lt
  have HBK := Lib.hid (hb.below HB.out hgl)
  have HNX := Lib.hid (next_no g A n c un bg _ HBK.out hn)
  clear hb
  go_enter Tryd.func66, Tryd.ntmps66
  go_wp2_with fail
  go_at_call 91
  refine HNX.out.mono ?_
  rintro e w1 ⟨rfl, hB1⟩
  go_wp2_with fail
  exact ⟨rfl, rfl, (But.of HB.out).then hB1, HBK.out.below hB1 HBK.out.lt⟩
set_option maxHeartbeats 1000000 in
theorem ins_zero (g b off n c : Nat) (L : List Int) (un bg : Int) (w : World) (hb : Blk w g 112 (rd3 (some ⟨b, off, none⟩) n c un bg)) (hn : 8 ≤ n) (hc : n ≤ c) (hbl : b < w.heap.size) (hne : b ≠ g) (hlen : L.length = n) (hL : BytesL L)
    (hcell : ∀ i, i < L.length → w.cell? ⟨b, off + i, none⟩ = some (.int .u8 (L[i]?.getD 0))) (hu : 0 ≤ un ∧ un < 1152921504606846976) (ht : Tabs w) (hg4 : 3 ≤ g)
    (h0 : (opL (unitA L).oc).op = 0) :
    Calls Tryd.prog 66 #[.pointer (some ⟨g, 0, none⟩)] w fun e w' => e = .panicked [{ v := .iface 34 (.int .i64 21), recovered := false }] ∧ But g w w' ∧ Blk w' g 112 (rd3 (adv b off c) (n - 8) (c - 8) (un + 1) bg) := by
  have hU := unitA_ok hL
  have hgl := hb.lt
  have hN := Lib.hid (fun (w1 : World) (hB : Below w.heap.size w w1) => next_ok g b off n c L un bg w1 (hb.below hB hgl) hn hc (Nat.lt_of_lt_of_le hbl hB.size) hne hlen hL (fun i hi => (hB.cell (p := ⟨b, off + i, none⟩) hbl).trans (hcell i hi)) hu)
  have HR := Lib.hid ((Blk.new w 71 (ins8 0 false false 0 0 0 0 0)).alloc (.cells (un5 0 0 0 0 0) 106))
  have HV := Lib.hid (blk_new2 w (.cells (ins8 0 false false 0 0 0 0 0) 71) 106 (un5 0 0 0 0 0))
  have HB := Lib.hid (below_box2 w (.cells (ins8 0 false false 0 0 0 0 0) 71) (.cells (un5 0 0 0 0 0) 106))
  have HT := Lib.hid ht
  have HUK := Lib.hid hU
  clear hb hcell hL ht hU
  generalize unitA L = U at *
  obtain ⟨oc, ud, us, uo, ui⟩ := U
  simp only at h0
  have q0 : g ≠ w.heap.size := by omega
  go_enter Tryd.func66, Tryd.ntmps66
  go_wp2_with fail
  go_at_call 91
  refine (hN.out _ HB.out).mono ?_
  rintro e w1 ⟨rfl, hK, hrd⟩
  have hrd : Blk w1 g 112 (rd3 (adv b off c) (n - 8) (c - 8) (un + 1) bg) := hrd
  go_upto_region 3 with (fail)
  have hgr : w.heap.size < w1.heap.size := by have := hK.size; simp at this; omega
  have hu1 := Blk.new w1 106 (un5 oc ud us uo ui)
  have hr1 := (hK.blk HR.out (by omega)).alloc (.cells (un5 oc ud us uo ui) 106)
  have hv1 := (hK.blk HV.out (by omega)).alloc (.cells (un5 oc ud us uo ui) 106)
  have hrd1 := hrd.alloc (.cells (un5 oc ud us uo ui) 106)
  have hb1 := ((But.of (g := g) HB.out).trans hK).alloc (.cells (un5 oc ud us uo ui) 106)
  have ht1 := hb1.tabs HT.out hg4
  have q1 : w.heap.size ≠ w1.heap.size := by omega
  have q2 : w.heap.size + 1 ≠ w1.heap.size := by have := hv1.lt; have := hK.size; simp at this; omega
  have q3 : g ≠ w1.heap.size := by omega
  clear hrd hK HB HT
  generalize (w1.alloc (.cells #[.int .i64 oc, .int .i64 ud, .int .i64 us, .int .i64 uo, .int .i64 ui] 106)) = W2 at *
  generalize w1.heap.size = gu at *
  obtain ⟨u0, u1, u2, u3, u4, k0, k1, k2, k3, k4⟩ := cells5 hu1
  have HO := Lib.hid (operation_any oc HUK.out.oc W2 ht1)
  have HU1 := Lib.hid hu1
  have HR1 := Lib.hid hr1
  have HV1 := Lib.hid hv1
  have HRD1 := Lib.hid hrd1
  have HB1 := Lib.hid hb1
  have HT1 := Lib.hid ht1
  clear hu1 hr1 hv1 hrd1 hb1 ht1
  generalize hJ : opL oc = J at *
  have HJ := Lib.hid hJ
  clear hJ
  obtain ⟨op, nar, reg, size, dst, src, io, imm⟩ := J
  simp only at h0
  simp only [Ins.arr] at HO
  go_wp2_with fail
  go_at_call 92
  refine HO.out.mono ?_
  rintro e w3 ⟨rfl, hB3⟩
  go_upto_region 4 with (fail)
  have hlu := HU1.out.lt
  have hlr := HR1.out.lt
  have hlv := HV1.out.lt
  have hlg := HRD1.out.lt
  have hs3 := hB3.size
  have hRS : RS w g (adv b off c) (n - 8) (c - 8) (un + 1) bg w.heap.size (w.heap.size + 1) gu w3.heap.size ⟨0, 0, 0, 0, 0⟩ ⟨oc, ud, us, uo, ui⟩ ⟨op, nar, reg, size, dst, src, io, imm⟩ (w3.alloc (.cells (ins8 op nar reg size dst src io imm) 71)) :=
    ⟨(HR1.out.below hB3 HR1.out.lt).alloc _, (HV1.out.below hB3 HV1.out.lt).alloc _, (HU1.out.below hB3 HU1.out.lt).alloc _, Blk.new w3 _ _, (HB1.out.then hB3).alloc _, (HRD1.out.below hB3 HRD1.out.lt).alloc _, (HT1.out.below hB3).below (below_box _ _)⟩
  have q4 : w.heap.size ≠ w3.heap.size := by omega
  have q5 : w.heap.size + 1 ≠ w3.heap.size := by omega
  have q6 : gu ≠ w3.heap.size := by omega
  have q7 : g ≠ w3.heap.size := by omega
  have q8 : w.heap.size ≤ w3.heap.size := by omega
  clear hlu hlr hlv hlg hs3 hB3 HU1 HR1 HV1 HRD1 HB1 HT1 HO HR HV u0 u1 u2 u3 u4 k0 k1 k2 k3 k4
  have HRS := Lib.hid hRS
  subst h0
  clear hRS
  go_wp2_with fail
  go_at_call 65
  refine (need_no _ _).mono ?_
  rintro e w5 ⟨rfl, rfl⟩
  go_wp2_with fail
  exact ⟨rfl, rfl, HRS.out.but, HRS.out.rd⟩
set_option maxHeartbeats 1000000 in
theorem ins_two_short (g b off n c : Nat) (L : List Int) (un bg : Int) (w : World) (hb : Blk w g 112 (rd3 (some ⟨b, off, none⟩) n c un bg)) (hn : 8 ≤ n) (hc : n ≤ c) (hbl : b < w.heap.size) (hne : b ≠ g) (hlen : L.length = n) (hL : BytesL L)
    (hcell : ∀ i, i < L.length → w.cell? ⟨b, off + i, none⟩ = some (.int .u8 (L[i]?.getD 0))) (hu : 0 ≤ un ∧ un < 1152921504606846976) (ht : Tabs w) (hg4 : 3 ≤ g)
    (h20 : (opL (unitA L).oc).op = 20) (hn16 : n < 16) :
    Calls Tryd.prog 66 #[.pointer (some ⟨g, 0, none⟩)] w fun e w' => e = .panicked [{ v := .iface 34 (.int .i64 20), recovered := false }] ∧ But g w w' ∧ Blk w' g 112 (rd3 (adv b off c) (n - 8) (c - 8) (un + 1) bg) := by
  have hU := unitA_ok hL
  have h0 : (opL (unitA L).oc).op ≠ 0 := by rw [h20]; decide
  have F := opL_facts hU.oc h0
  have hgl := hb.lt
  have hN := Lib.hid (fun (w1 : World) (hB : Below w.heap.size w w1) => next_ok g b off n c L un bg w1 (hb.below hB hgl) hn hc (Nat.lt_of_lt_of_le hbl hB.size) hne hlen hL (fun i hi => (hB.cell (p := ⟨b, off + i, none⟩) hbl).trans (hcell i hi)) hu)
  have HR := Lib.hid ((Blk.new w 71 (ins8 0 false false 0 0 0 0 0)).alloc (.cells (un5 0 0 0 0 0) 106))
  have HV := Lib.hid (blk_new2 w (.cells (ins8 0 false false 0 0 0 0 0) 71) 106 (un5 0 0 0 0 0))
  have HB := Lib.hid (below_box2 w (.cells (ins8 0 false false 0 0 0 0 0) 71) (.cells (un5 0 0 0 0 0) 106))
  have HT := Lib.hid ht
  have HF := Lib.hid F
  have HUK := Lib.hid hU
  clear hb hcell hL ht F hU
  generalize unitA L = U at *
  obtain ⟨oc, ud, us, uo, ui⟩ := U
  simp only at h0 h20
  have q0 : g ≠ w.heap.size := by omega
  go_enter Tryd.func66, Tryd.ntmps66
  go_wp2_with fail
  go_at_call 91
  refine (hN.out _ HB.out).mono ?_
  rintro e w1 ⟨rfl, hK, hrd⟩
  have hrd : Blk w1 g 112 (rd3 (adv b off c) (n - 8) (c - 8) (un + 1) bg) := hrd
  go_upto_region 3 with (fail)
  have hgr : w.heap.size < w1.heap.size := by have := hK.size; simp at this; omega
  have hu1 := Blk.new w1 106 (un5 oc ud us uo ui)
  have hr1 := (hK.blk HR.out (by omega)).alloc (.cells (un5 oc ud us uo ui) 106)
  have hv1 := (hK.blk HV.out (by omega)).alloc (.cells (un5 oc ud us uo ui) 106)
  have hrd1 := hrd.alloc (.cells (un5 oc ud us uo ui) 106)
  have hb1 := ((But.of (g := g) HB.out).trans hK).alloc (.cells (un5 oc ud us uo ui) 106)
  have ht1 := hb1.tabs HT.out hg4
  have q1 : w.heap.size ≠ w1.heap.size := by omega
  have q2 : w.heap.size + 1 ≠ w1.heap.size := by have := hv1.lt; have := hK.size; simp at this; omega
  have q3 : g ≠ w1.heap.size := by omega
  clear hrd hK HB HT
  generalize (w1.alloc (.cells #[.int .i64 oc, .int .i64 ud, .int .i64 us, .int .i64 uo, .int .i64 ui] 106)) = W2 at *
  generalize w1.heap.size = gu at *
  obtain ⟨u0, u1, u2, u3, u4, k0, k1, k2, k3, k4⟩ := cells5 hu1
  have HO := Lib.hid (operation_any oc HUK.out.oc W2 ht1)
  have hju : (opL oc).dst = 0 ∧ (opL oc).src = 0 ∧ (opL oc).off = 0 ∧ (opL oc).imm = 0 := HF.out.zero
  have HU1 := Lib.hid hu1
  have HR1 := Lib.hid hr1
  have HV1 := Lib.hid hv1
  have HRD1 := Lib.hid hrd1
  have HB1 := Lib.hid hb1
  have HT1 := Lib.hid ht1
  clear hu1 hr1 hv1 hrd1 hb1 ht1
  generalize hJ : opL oc = J at *
  have HJ := Lib.hid hJ
  clear hJ
  obtain ⟨op, nar, reg, size, dst, src, io, imm⟩ := J
  simp only at h0 h20 hju
  obtain ⟨rfl, rfl, rfl, rfl⟩ := hju
  simp only [Ins.arr] at HO
  go_wp2_with fail
  go_at_call 92
  refine HO.out.mono ?_
  rintro e w3 ⟨rfl, hB3⟩
  go_upto_region 4 with (fail)
  have hlu := HU1.out.lt
  have hlr := HR1.out.lt
  have hlv := HV1.out.lt
  have hlg := HRD1.out.lt
  have hs3 := hB3.size
  have hRS : RS w g (adv b off c) (n - 8) (c - 8) (un + 1) bg w.heap.size (w.heap.size + 1) gu w3.heap.size ⟨0, 0, 0, 0, 0⟩ ⟨oc, ud, us, uo, ui⟩ ⟨op, nar, reg, size, 0, 0, 0, 0⟩ (w3.alloc (.cells (ins8 op nar reg size 0 0 0 0) 71)) :=
    ⟨(HR1.out.below hB3 HR1.out.lt).alloc _, (HV1.out.below hB3 HV1.out.lt).alloc _, (HU1.out.below hB3 HU1.out.lt).alloc _, Blk.new w3 _ _, (HB1.out.then hB3).alloc _, (HRD1.out.below hB3 HRD1.out.lt).alloc _, (HT1.out.below hB3).below (below_box _ _)⟩
  have q4 : w.heap.size ≠ w3.heap.size := by omega
  have q5 : w.heap.size + 1 ≠ w3.heap.size := by omega
  have q6 : gu ≠ w3.heap.size := by omega
  have q7 : g ≠ w3.heap.size := by omega
  have q8 : w.heap.size ≤ w3.heap.size := by omega
  clear hlu hlr hlv hlg hs3 hB3 HU1 HR1 HV1 HRD1 HB1 HT1 HO HR HV u0 u1 u2 u3 u4 k0 k1 k2 k3 k4
  have HRS := Lib.hid hRS
  have hopn : (op != 0) = true := by rw [bne_iff_ne]; exact h0
  subst h20
  have HLG := Lib.hid (fun w => long_any 20 w)
  clear hRS
  go_wp2_with fail
  go_at_call 65
  refine (need_yes _ _).mono ?_
  rintro e w5 ⟨rfl, rfl⟩
  go_wp2_with fail
  go_at_call 58
  refine (HLG.out _).mono ?_
  rintro e w5 ⟨rfl, rfl⟩
  go_wp2_with fail
  go_at_call 91
  refine (next_no g _ _ _ _ _ _ HRS.out.rd (by omega)).mono ?_
  rintro e w6 ⟨rfl, hB6⟩
  go_wp2_with fail
  exact ⟨rfl, rfl, HRS.out.but.then hB6, HRS.out.rd.below hB6 HRS.out.rd.lt⟩
end Go.Proofs.YtlodoinmippebaaDoor
