/- MachJumps' nowhere: a jump that leads nowhere. Written by gen_mcnw.py. -/
import Derived.Test.YtpigkppnelnhiaaGreatMcR5
import Derived.Test.YtpigkppnelnhiaaGreatMcSu
namespace Go.Proofs.YtpigkppnelnhiaaGreat
open Go.ChangeShapes Go.WideShapes Go.ChangeAt Go.RowKit
open Cod Bits
set_option linter.unusedVariables false
set_option linter.unusedSimpArgs false
set_option maxRecDepth 100000
theorem ji_ni {op : Int} {nar : Bool} {y : Int} {iop : Int} {inar ireg : Bool} {isz idst isrc ioff iimm : Int} (h : JI op nar y ⟨iop, inar, ireg, isz, idst, isrc, ioff, iimm⟩) {off : Int} (ho : off = 1 ∨ off = 40) : NI op nar y off ⟨iop, inar, ireg, isz, idst, isrc, off, iimm⟩ := by
  refine ⟨ho, ?_⟩
  rcases h with h | ⟨h, hy⟩
  · injection h with h1 h2 h3 h4 h5 h6 h7 h8
    subst h1 h2 h3 h4 h5 h6 h7 h8
    exact .inl rfl
  · injection h with h1 h2 h3 h4 h5 h6 h7 h8
    subst h1 h2 h3 h4 h5 h6 h7 h8
    exact .inr ⟨rfl, hy⟩
theorem nw_all {a y op : Int} {nar : Bool} {off : Int} {i : Ins} (h : NI op nar y off i) (ho : 27 ≤ op ∧ op ≤ 37) : ∀ j ∈ nwP a y i, Plain j.op ∧ j.wrong = 0 := by
  intro j hj
  simp only [nwP, List.mem_cons, List.not_mem_nil, or_false] at hj
  rcases hj with rfl | rfl | rfl | rfl | rfl
  · exact ⟨.inl (by show (1 : Int) ≤ 20 ∧ (20 : Int) ≤ 20; decide), by unfold Ins.wrong iW; rfl⟩
  · exact ⟨.inl (by show (1 : Int) ≤ 20 ∧ (20 : Int) ≤ 20; decide), by unfold Ins.wrong iW; rfl⟩
  · exact ⟨.inr (.inl (by rw [ni_op h]; omega)), ni_wrong h ho⟩
  · exact ⟨.inl (by show (1 : Int) ≤ 20 ∧ (20 : Int) ≤ 20; decide), by unfold Ins.wrong iW; rfl⟩
  · exact ⟨.inr (.inr rfl), by rfl⟩
/-- New of that program -/
theorem nw_new (w : World) (b : Nat) (a y op : Int) (nar : Bool) (off : Int) (i : Ins) (h : NI op nar y off i) (ho : 27 ≤ op ∧ op ≤ 37) (hC : CodeAt w (some ⟨b, 0, none⟩) (nwP a y i)) :
    Calls Tryz.prog 6 #[.agg #[.int .i64 0, .int .i64 0, .slice none 0 0, .slice none 0 0, .slice (some ⟨b, 0, none⟩) 5 5], .agg #[.slice none 0 0, .slice none 0 0]] w fun e w' => ∃ g, e = .returned (.tuple #[.pointer (some ⟨g, 0, none⟩), .int .i64 0]) ∧ MAt w' w.heap.size g ⟨nwP a y i, goalsL (nwP a y i)⟩ (startSt []) ∧ Below w.heap.size w w' :=
  new_yes w 0 0 ⟨b, 0, none⟩ 5 (nwP a y i) none 0 [] (by show 5 ≤ 4096; decide) (by show 1 ≤ 5; decide) hC (fun j hj => by have := (nw_all h ho j hj).1; unfold Plain at this; omega) ⟨by decide, by decide, by decide⟩ (check_all _ 0 (by show 5 ≤ _; decide) fun j hj => (nw_all h ho j hj).2) (by decide) (fun h => absurd h (by decide)) (fun _ => ⟨rfl, rfl⟩) ⟨by decide, by decide⟩
/-- Run of that program, nine steps -/
theorem nw_ran {w : World} {base g : Nat} {a y op : Int} {nar : Bool} {off : Int} {i : Ins} (h : NI op nar y off i) (ho : 27 ≤ op ∧ op ≤ 37) (hM : MAt w base g ⟨nwP a y i, goalsL (nwP a y i)⟩ (startSt [])) :
    Calls Tryz.prog 9 #[.pointer (some ⟨g, 0, none⟩), .int .i64 9] w (Ran base g ⟨nwP a y i, goalsL (nwP a y i)⟩ (nwR op nar a y) w) := by
  have hA : Able ⟨nwP a y i, goalsL (nwP a y i)⟩ (doL ⟨nwP a y i, goalsL (nwP a y i)⟩) := plain_able _ (fun j hj => (nw_all h ho j hj).2) (fun j hj => (nw_all h ho j hj).1) (by simp [goalsL]) (by show 5 ≤ 4096; decide)
  have := run_v (doL ⟨nwP a y i, goalsL (nwP a y i)⟩) hA hM ⟨by show 0 < 5; decide, by simp [goalsL], by show 0 ≤ 1048576; decide, by show 0 ≤ 1048576; decide⟩ 9 (by decide)
  rw [nw_run a y op nar off i h ho] at this
  exact this
/-- State of a machine -/
theorem state_at {w : World} {base g : Nat} {P : Pg} {S : St} (h : MAt w base g P S) (hcl : S.ctx = []) (hsl : S.sent = []) : Calls Tryz.prog 10 #[.pointer (some ⟨g, 0, none⟩)] w (Told S w) := by
  obtain ⟨vc, vk, vg, vn, hm⟩ := h
  exact state_v hm (by rw [hcl]; decide) (by rw [hsl]; decide)
set_option maxHeartbeats 1000000 in
theorem nowhere_v (w : World) (op : Int) (nar : Bool) (a yy iop : Int) (inar ireg : Bool) (isz idst isrc ioff iimm : Int) (ho : 27 ≤ op ∧ op ≤ 37) (hji : JI op nar yy ⟨iop, inar, ireg, isz, idst, isrc, ioff, iimm⟩) :
    Calls Tryz.prog 17 #[.agg #[.int .i64 iop, .bool inar, .bool ireg, .int .i64 isz, .int .i64 idst, .int .i64 isrc, .int .i64 ioff, .int .i64 iimm], .int .i64 a, .int .i64 yy, .bool (holdsM op nar a yy)] w fun e w' => e = .returned (.bool true) ∧ Below w.heap.size w w' := by
  have HO := Lib.hid ho
  have HJ := Lib.hid hji
  have hI0 := Blk.new w 57 #[.int .i64 iop, .bool inar, .bool ireg, .int .i64 isz, .int .i64 idst, .int .i64 isrc, .int .i64 ioff, .int .i64 iimm]
  have HB0 := Lib.hid (box1 w (.cells #[.int .i64 iop, .bool inar, .bool ireg, .int .i64 isz, .int .i64 idst, .int .i64 isrc, .int .i64 ioff, .int .i64 iimm] 57))
  have HI0 := Lib.hid hI0
  obtain ⟨G4, hG4⟩ : ∃ G4, G4 = w.heap.size := ⟨_, rfl⟩
  rw [← hG4] at HI0
  have HG := Lib.hid hG4
  clear ho hji hI0
  generalize hhb : holdsM op nar a yy = hb
  have HHB := Lib.hid hhb
  clear hhb
  go_enter Tryz.func17, Tryz.ntmps17
  go_upto_region 1 with (fail)
  rw [← hG4]
  clear hG4
  go_wp2_with fail
  go_loopw [9] (fun o wr => ∃ off : Int, (off = 1 ∨ off = 40 ∨ off = 79) ∧ o = .int .i64 off ∧ Below w.heap.size w wr ∧ ∃ ioff, Blk wr G4 57 #[.int .i64 iop, .bool inar, .bool ireg, .int .i64 isz, .int .i64 idst, .int .i64 isrc, .int .i64 ioff, .int .i64 iimm]) (fun o _ => (79 - intOf o).toNat)
  case atStart => exact ⟨1, .inl rfl, rfl, HB0.out, ioff, HI0.out⟩
  case round =>
    clear HB0 HI0
    obtain ⟨off, hoff, rfl, hB, ioff1, hI⟩ := hrel
    by_cases hlt : off = 79
    · subst hlt
      go_wp2_with fail
      go_ret
      exact ⟨rfl, hB⟩
    · have ho2 : off = 1 ∨ off = 40 := by omega
      have f1 : decide (off ≤ 40) = true := by simp; omega
      have HNI := Lib.hid (ji_ni HJ.out ho2)
      have c6 := hI.cell 6
      have k6 := hI.frozen 6
      simp only [List.getElem?_toArray, List.getElem?_cons_zero, List.getElem?_cons_succ] at c6
      have hI6 := hI.set_ 6 (.int .i64 off)
      have hB6 := Below.setCell hB (p := ⟨G4, 6, none⟩) (by show w.heap.size ≤ G4; rw [HG.out]; exact Nat.le_refl _) (.int .i64 off)
      simp only [List.setIfInBounds_toArray, List.set_cons_zero, List.set_cons_succ] at hI6
      have HI6 := Lib.hid hI6
      have HB6 := Lib.hid hB6
      clear hI hB hI6 hB6
      go_upto_region 5 with (fail)
      clear c6 k6
      generalize (wr.setCell ⟨G4, 6, none⟩ (.int .i64 off)) = w5 at *
      refine wp_region_held_drew (S := fun W => Blk W G4 57 #[.int .i64 iop, .bool inar, .bool ireg, .int .i64 isz, .int .i64 idst, .int .i64 isrc, .int .i64 off, .int .i64 iimm]) (by kernel_rfl) HI6.out (fun hHeld => ?_)
      refine wpAnyH_take (i := 0) (oi := _) (v := .int .i64 a) rfl (by kernel_rfl) (by kernel_rfl) (by kernel_rfl) (fun _ _ _ h => h) (Or.inl ⟨by rfl, ?_⟩) (by assumption) ?_
      · intro w hSw
        go_simp
      try simp only [Act.put, List.setIfInBounds_toArray, List.set_cons_zero, List.set_cons_succ]
      refine wpAnyH_take (i := 2) (oi := _) (v := .int .i64 yy) rfl (by kernel_rfl) (by kernel_rfl) (by kernel_rfl) (fun _ _ _ h => h) (Or.inl ⟨by rfl, ?_⟩) (by assumption) ?_
      · intro w hSw
        go_simp
      try simp only [Act.put, List.setIfInBounds_toArray, List.set_cons_zero, List.set_cons_succ]
      refine wpAnyH_take (i := 4) (oi := _) (v := .agg #[.int .i64 iop, .bool inar, .bool ireg, .int .i64 isz, .int .i64 idst, .int .i64 isrc, .int .i64 off, .int .i64 iimm]) rfl (by kernel_rfl) (by kernel_rfl) (by kernel_rfl) (fun _ _ _ h => h) (Or.inl ⟨by rfl, ?_⟩) (by assumption) ?_
      · intro w hSw
        obtain ⟨c0, c1, c2, c3, c4, c5, c6, c7⟩ := Blk.eight hSw
        go_simp
      try simp only [Act.put, List.setIfInBounds_toArray, List.set_cons_zero, List.set_cons_succ]
      refine wpAnyH_take (i := 6) (oi := _) (v := .agg #[.int .i64 39, .bool false, .bool false, .int .i64 0, .int .i64 0, .int .i64 0, .int .i64 0, .int .i64 0]) rfl (by kernel_rfl) (by kernel_rfl) (by kernel_rfl) (fun _ _ _ h => h) (Or.inl ⟨by rfl, ?_⟩) (by assumption) ?_
      · intro w hSw
        go_simp
      try simp only [Act.put, List.setIfInBounds_toArray, List.set_cons_zero, List.set_cons_succ]
      refine wpAnyH_take (i := 9) (oi := _) (v := .agg #[.slice none 0 0, .slice none 0 0]) rfl (by kernel_rfl) (by kernel_rfl) (by kernel_rfl) (fun _ _ _ h => h) (Or.inl ⟨by rfl, ?_⟩) (by assumption) ?_
      · intro w hSw
        go_simp
      try simp only [Act.put, List.setIfInBounds_toArray, List.set_cons_zero, List.set_cons_succ]
      clear hHeld
      have HD := Lib.hid (show Below w.heap.size w w5.drew from below_drewN HB6.out 1)
      have HID := Lib.hid (show Blk w5.drew G4 57 #[.int .i64 iop, .bool inar, .bool ireg, .int .i64 isz, .int .i64 idst, .int .i64 isrc, .int .i64 off, .int .i64 iimm] from HI6.out)
      clear HI6 HB6
      refine wpAnyH_ready (rs := [1]) (by kernel_rfl) (by simp) ?_
      refine AllReadyH.cons rfl (fun K hK => ?_) AllReadyH.nil
      go_simp
      go_at_call 15
      refine (wide_x _ 3 a).mono ?_
      rintro e x1 ⟨rfl, hB⟩
      have HD1 := Lib.hid (HD.out.trans (hB.mono HD.out.size))
      have HID1 := Lib.hid (HID.out.up hB)
      clear hB
      refine hK.out _ _ HID1.out (fun hHeld => ?_)
      clear hK K
      try simp only [Act.put, List.setIfInBounds_toArray, List.set_cons_zero, List.set_cons_succ]
      clear hHeld
      refine wpAnyH_ready (rs := [3]) (by kernel_rfl) (by simp) ?_
      refine AllReadyH.cons rfl (fun K hK => ?_) AllReadyH.nil
      go_simp
      go_at_call 15
      refine (wide_x _ 4 yy).mono ?_
      rintro e x2 ⟨rfl, hB⟩
      have HD2 := Lib.hid (HD1.out.trans (hB.mono HD1.out.size))
      have HID2 := Lib.hid (HID1.out.up hB)
      clear hB
      refine hK.out _ _ HID2.out (fun hHeld => ?_)
      clear hK K
      try simp only [Act.put, List.setIfInBounds_toArray, List.set_cons_zero, List.set_cons_succ]
      clear hHeld
      refine wpAnyH_ready (rs := [5]) (by kernel_rfl) (by simp) ?_
      refine AllReadyH.cons rfl (fun K hK => ?_) AllReadyH.nil
      go_simp
      go_at_call 15
      refine (wide_x _ 0 2).mono ?_
      rintro e x3 ⟨rfl, hB⟩
      have HD3 := Lib.hid (HD2.out.trans (hB.mono HD2.out.size))
      have HID3 := Lib.hid (HID2.out.up hB)
      clear hB
      refine hK.out _ _ HID3.out (fun hHeld => ?_)
      clear hK K
      try simp only [Act.put, List.setIfInBounds_toArray, List.set_cons_zero, List.set_cons_succ]
      clear hHeld
      refine wpAnyH_ready (rs := [7]) (by kernel_rfl) (by simp) ?_
      refine AllReadyH.cons rfl (fun K hK => ?_) AllReadyH.nil
      go_simp
      have HC := Lib.hid (Blk.new x3 57 #[.int .i64 20, .bool false, .bool false, .int .i64 0, .int .i64 3, .int .i64 0, .int .i64 0, .int .i64 a, .int .i64 20, .bool false, .bool false, .int .i64 0, .int .i64 4, .int .i64 0, .int .i64 0, .int .i64 yy, .int .i64 iop, .bool inar, .bool ireg, .int .i64 isz, .int .i64 idst, .int .i64 isrc, .int .i64 off, .int .i64 iimm, .int .i64 20, .bool false, .bool false, .int .i64 0, .int .i64 0, .int .i64 0, .int .i64 0, .int .i64 2, .int .i64 39, .bool false, .bool false, .int .i64 0, .int .i64 0, .int .i64 0, .int .i64 0, .int .i64 0])
      have HD4 := Lib.hid (HD3.out.trans ((box1 x3 (.cells #[.int .i64 20, .bool false, .bool false, .int .i64 0, .int .i64 3, .int .i64 0, .int .i64 0, .int .i64 a, .int .i64 20, .bool false, .bool false, .int .i64 0, .int .i64 4, .int .i64 0, .int .i64 0, .int .i64 yy, .int .i64 iop, .bool inar, .bool ireg, .int .i64 isz, .int .i64 idst, .int .i64 isrc, .int .i64 off, .int .i64 iimm, .int .i64 20, .bool false, .bool false, .int .i64 0, .int .i64 0, .int .i64 0, .int .i64 0, .int .i64 2, .int .i64 39, .bool false, .bool false, .int .i64 0, .int .i64 0, .int .i64 0, .int .i64 0, .int .i64 0] 57)).mono HD3.out.size))
      have HID4 := Lib.hid (HID3.out.up (box1 x3 (.cells #[.int .i64 20, .bool false, .bool false, .int .i64 0, .int .i64 3, .int .i64 0, .int .i64 0, .int .i64 a, .int .i64 20, .bool false, .bool false, .int .i64 0, .int .i64 4, .int .i64 0, .int .i64 0, .int .i64 yy, .int .i64 iop, .bool inar, .bool ireg, .int .i64 isz, .int .i64 idst, .int .i64 isrc, .int .i64 off, .int .i64 iimm, .int .i64 20, .bool false, .bool false, .int .i64 0, .int .i64 0, .int .i64 0, .int .i64 0, .int .i64 2, .int .i64 39, .bool false, .bool false, .int .i64 0, .int .i64 0, .int .i64 0, .int .i64 0, .int .i64 0] 57)))
      refine hK.out _ _ HID4.out (fun hHeld => ?_)
      clear hK K
      try simp only [Act.put, List.setIfInBounds_toArray, List.set_cons_zero, List.set_cons_succ]
      obtain ⟨b, hb⟩ : ∃ b, b = x3.heap.size := ⟨_, rfl⟩
      rw [← hb] at HC ⊢
      clear hb
      generalize (x3.alloc (.cells #[.int .i64 20, .bool false, .bool false, .int .i64 0, .int .i64 3, .int .i64 0, .int .i64 0, .int .i64 a, .int .i64 20, .bool false, .bool false, .int .i64 0, .int .i64 4, .int .i64 0, .int .i64 0, .int .i64 yy, .int .i64 iop, .bool inar, .bool ireg, .int .i64 isz, .int .i64 idst, .int .i64 isrc, .int .i64 off, .int .i64 iimm, .int .i64 20, .bool false, .bool false, .int .i64 0, .int .i64 0, .int .i64 0, .int .i64 0, .int .i64 2, .int .i64 39, .bool false, .bool false, .int .i64 0, .int .i64 0, .int .i64 0, .int .i64 0, .int .i64 0] 57)) = x4 at *
      refine wpAnyH_take (i := 8) (oi := _) (v := .agg #[.int .i64 0, .int .i64 0, .slice none 0 0, .slice none 0 0, .slice (some ⟨b, 0, none⟩) 5 5]) rfl (by kernel_rfl) (by kernel_rfl) (by kernel_rfl) (fun _ _ _ h => h) (Or.inl ⟨by rfl, ?_⟩) (by assumption) ?_
      · intro w hSw
        go_simp
      try simp only [Act.put, List.setIfInBounds_toArray, List.set_cons_zero, List.set_cons_succ]
      clear hHeld
      have HNW := Lib.hid (nw_new x4 b a yy op nar off ⟨iop, inar, ireg, isz, idst, isrc, off, iimm⟩ HNI.out HO.out (blk_code HC.out rfl))
      refine wpAnyH_ready (rs := [10]) (by kernel_rfl) (by simp) ?_
      refine AllReadyH.cons rfl (fun K hK => ?_) AllReadyH.nil
      go_simp
      go_at_call 6
      refine HNW.out.mono ?_
      rintro e x5 ⟨g, rfl, hM, hB⟩
      have HD5 := Lib.hid (HD4.out.trans (hB.mono HD4.out.size))
      have HID5 := Lib.hid (HID4.out.up hB)
      have HM := Lib.hid hM
      have HSZ := Lib.hid HD4.out.size
      clear hB hM
      refine hK.out _ _ HID5.out (fun hHeld => ?_)
      clear hK K
      try simp only [Act.put, List.setIfInBounds_toArray, List.set_cons_zero, List.set_cons_succ]
      refine wpAnyH_take (i := 11) (oi := _) (v := .tuple #[.pointer (some ⟨g, 0, none⟩), .int .i64 0]) rfl (by kernel_rfl) (by kernel_rfl) (by kernel_rfl) (fun _ _ _ h => h) (Or.inl ⟨by rfl, ?_⟩) (by assumption) ?_
      · intro w hSw
        go_simp
      try simp only [Act.put, List.setIfInBounds_toArray, List.set_cons_zero, List.set_cons_succ]
      refine wpAnyH_take (i := 12) (oi := _) (v := .pointer (some ⟨g, 0, none⟩)) rfl (by kernel_rfl) (by kernel_rfl) (by kernel_rfl) (fun _ _ _ h => h) (Or.inl ⟨by rfl, ?_⟩) (by assumption) ?_
      · intro w hSw
        go_simp
      try simp only [Act.put, List.setIfInBounds_toArray, List.set_cons_zero, List.set_cons_succ]
      refine wpAnyH_take (i := 13) (oi := _) (v := .int .i64 0) rfl (by kernel_rfl) (by kernel_rfl) (by kernel_rfl) (fun _ _ _ h => h) (Or.inl ⟨by rfl, ?_⟩) (by assumption) ?_
      · intro w hSw
        go_simp
      try simp only [Act.put, List.setIfInBounds_toArray, List.set_cons_zero, List.set_cons_succ]
      refine wpAnyH_take (i := 14) (oi := _) (v := .pointer (some ⟨g, 0, none⟩)) rfl (by kernel_rfl) (by kernel_rfl) (by kernel_rfl) (fun _ _ _ h => h) (Or.inl ⟨by rfl, ?_⟩) (by assumption) ?_
      · intro w hSw
        go_simp
      try simp only [Act.put, List.setIfInBounds_toArray, List.set_cons_zero, List.set_cons_succ]
      refine wpAnyH_take (i := 15) (oi := _) (v := .int .i64 0) rfl (by kernel_rfl) (by kernel_rfl) (by kernel_rfl) (fun _ _ _ h => h) (Or.inl ⟨by rfl, ?_⟩) (by assumption) ?_
      · intro w hSw
        go_simp
      try simp only [Act.put, List.setIfInBounds_toArray, List.set_cons_zero, List.set_cons_succ]
      refine wpAnyH_done (by kernel_rfl) ?_ _
      clear hHeld HNW HC HD HD1 HD2 HD3 HD4 HID HID1 HID2 HID3 HID4
      have hcs := nw_ctx op nar a yy
      have HRN := Lib.hid (nw_ran HNI.out HO.out HM.out)
      obtain ⟨r, hr⟩ : ∃ r, nwR op nar a yy = r := ⟨_, rfl⟩
      have HR := Lib.hid hr
      rw [hr] at HRN hcs
      clear hr
      have HCS := Lib.hid hcs
      clear hcs HM
      go_upto_region 9 with (go_at_call 9; refine HRN.out.mono ?_; intro e x6 hran; obtain ⟨x, B1, n1, d1, B2, n2, d2, rfl, hM6, h0, hne, hB6, hK6⟩ := hran.form; clear hran)
      have hID6 := hK6 _ _ _ HID5.out (by decide) (by decide) (by decide)
      have hD6 := HD5.out.trans (hB6.mono HSZ.out)
      have hO7 := Blk.new x6 39 #[.int .i64 x, .slice B1 n1 d1, .slice none 0 0, .slice B2 n2 d2]
      have hb7 := box1 x6 (.cells #[.int .i64 x, .slice B1 n1 d1, .slice none 0 0, .slice B2 n2 d2] 39)
      have hM7 := hM6.up hb7
      have HID7 := Lib.hid (hID6.up hb7)
      have HD7 := Lib.hid (hD6.trans (hb7.mono hD6.size))
      have HST := Lib.hid (state_at hM7 HCS.out.1 HCS.out.2)
      have HO7 := Lib.hid hO7
      have H0 := Lib.hid (show r.1 = 0 → x = (r.2.regs 0).x from fun h => by
        obtain ⟨vc, vn, ev, -, -⟩ := h0 h
        injection ev with ev
        injection ev with ev
        injection ev with ev _
        injection ev)
      clear hID6 hD6 hO7 hb7 hM7 hM6 h0 hne hB6 hK6 HID5 HD5 HRN
      generalize (x6.alloc (.cells #[.int .i64 x, .slice B1 n1 d1, .slice none 0 0, .slice B2 n2 d2] 39)) = x7 at *
      generalize x6.heap.size = gO at *
      go_upto_region 10 with (first
        | (go_at_call 10; refine HST.out.mono ?_; rintro e x8 ⟨f, rfl, hone, f463, f464, f465, hB8⟩; (have HO8 := Lib.hid (HO7.out.up hB8)); (have HID8 := Lib.hid (HID7.out.up hB8)); (have HD8 := Lib.hid (HD7.out.trans (hB8.mono HD7.out.size))); (have HONE := Lib.hid hone); (have F3 := Lib.hid f463); (have F4 := Lib.hid f464); (have F5 := Lib.hid f465); clear hB8 hone f463 f464 f465)
        | (refine wpList_alloc_seg rfl 50 rfl 466 st0 state_zero ?_; intro x9 hF9 hB9 hs9; (have HF9 := Lib.hid hF9); (have HO9 := Lib.hid (HO8.out.up hB9)); (have HID9 := Lib.hid (HID8.out.up hB9)); (have HD9 := Lib.hid (HD8.out.trans (hB9.mono HD8.out.size))); (obtain ⟨gS, hgS⟩ : ∃ gS, gS = x8.heap.size := ⟨_, rfl⟩); rw [← hgS] at HF9 ⊢; (have HGS := Lib.hid (show w.heap.size ≤ gS by rw [hgS]; exact HD8.out.size)); clear hgS hF9 hB9 hs9)
        | (refine wpList_store_all rfl 50 (.tmp 14) (.tmp 43) rfl gS 50 466 st0 f rfl rfl HF9.out state_size (fun q _ => HONE.out q) ?_; intro x10 hF10 hT10 hs10))
      have s3 := hF10.cell 463 (by decide)
      have s4 := hF10.cell 464 (by decide)
      have s5 := hF10.cell 465 (by decide)
      rw [F3.out] at s3
      rw [F4.out] at s4
      rw [F5.out] at s5
      have hO10 := HO9.out.touch hT10 (Blk.ne_ HO9.out (show Blk x9 gS _ _ from HF9.out) (by decide))
      have hID10 := HID9.out.touch hT10 (Blk.ne_ HID9.out (show Blk x9 gS _ _ from HF9.out) (by decide))
      have hD10 := HD9.out.trans (hT10.below HGS.out HD9.out.size)
      have o0 := hO10.cell 0
      simp only [List.getElem?_toArray, List.getElem?_cons_zero] at o0
      have HID10 := Lib.hid hID10
      have HD10 := Lib.hid hD10
      clear hF10 hT10 hs10 hO10 hID10 hD10 HO8 HO9 HID8 HID9 HD8 HD9 HF9 HONE F3 F4 F5 HGS HO7 HID7 HD7 HST HNI
      have e39 : IntKind.i64.wrap (off + 39) = off + 39 := IntWalk.i64_in _ (by omega)
      cases hb
      · obtain ⟨e1, e2, e3⟩ := nwR_no HHB.out
        rw [HR.out] at e1 e2 e3
        have hx := H0.out e1
        rw [e2] at hx
        subst hx
        rw [e3] at s4
        rw [e1]
        clear e1 e2 e3
        go_wp2_with fail
        go_roundw
        case rel => exact ⟨off + 39, by omega, rfl, HD10.out, off, HID10.out⟩
        case measure => simp [intOf]; omega
      · obtain ⟨e1, e2, e3, e4⟩ := nwR_yes HHB.out
        rw [HR.out] at e1 e2 e3 e4
        rw [e3] at s4
        rw [e2] at s3
        rw [e4] at s5
        rw [e1]
        clear e1 e2 e3 e4
        go_wp2_with fail
        go_roundw
        case rel => exact ⟨off + 39, by omega, rfl, HD10.out, off, HID10.out⟩
        case measure => simp [intOf]; omega
end Go.Proofs.YtpigkppnelnhiaaGreat
