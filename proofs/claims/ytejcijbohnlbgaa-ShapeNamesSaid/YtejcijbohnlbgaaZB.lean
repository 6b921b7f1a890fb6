/- Contracts of package zone: blank, open, New. -/
import Derived.Test.YtejcijbohnlbgaaZA
import Derived.Test.YtejcijbohnlbgaaZNew
namespace Go.Proofs.Ytejcijbohnlbgaa
open Go.ChangeShapes Go.WideShapes Go.ChangeAt Go.RowKit
open Zon
set_option linter.unusedVariables false
set_option maxRecDepth 100000
def iv (x : Int) : Value := .int .i64 x
def zr (k : Nat) : Value := if k = 0 then .bool false else .int .i64 0
theorem zeroRow : (Try.prog.info? 101).bind (fun i => i.zero.map Value.cells) = some (arr 60 (fun _ => .int .i64 0)) := by kernel_rfl
theorem zeroTab : (Try.prog.info? 103).bind (fun i => i.zero.map Value.cells) = some (arr 3600 (fun _ => .int .i64 0)) := by kernel_rfl
theorem zeroZone : (Try.prog.info? 106).bind (fun i => i.zero.map Value.cells) = some (arr 3601 zr) := by kernel_rfl
theorem sizeRow : (Try.prog.info? 101).map (·.size) = some 60 := by kernel_rfl
theorem sizeTab : (Try.prog.info? 103).map (·.size) = some 3600 := by kernel_rfl
theorem sizeZone : (Try.prog.info? 106).map (·.size) = some 3601 := by kernel_rfl
/-- the cells of a row without a bound -/
def blankF : Nat → Value := fun _ => .int .i64 3458764513820540928
set_option maxHeartbeats 1000000 in
theorem blank_any (w : World) : Calls Try.prog 71 #[] w fun e w' => e = .returned (.agg (arr 60 blankF)) ∧ Below w.heap.size w w' := by
  go_enter Try.func71, Try.ntmps71
  go_upto_region 1 with (refine wpList_alloc_seg rfl 101 rfl 60 (fun _ => .int .i64 0) zeroRow ?_; intro w1 hb1 hB1 hs1)
  obtain ⟨g1, hg1⟩ : ∃ g, g = w.heap.size := ⟨_, rfl⟩
  rw [← hg1] at hb1 ⊢
  have HG1 := Lib.hid hg1
  have HB1 := Lib.hid hB1
  have Hb1 := Lib.hid hb1
  have HS1 := Lib.hid hs1
  clear hg1 hb1 hB1 hs1
  go_upto_region 2 with (refine wpList_alloc_seg rfl 101 rfl 60 (fun _ => .int .i64 0) zeroRow ?_; intro w2 hb2 hB2 hs2)
  obtain ⟨g2, hg2⟩ : ∃ g, g = w1.heap.size := ⟨_, rfl⟩
  rw [← hg2] at hb2 ⊢
  have HG2 := Lib.hid hg2
  have HB2 := Lib.hid (HB1.out.trans (hB2.mono HB1.out.size))
  have Hb1' := Lib.hid (Hb1.out.up hB2)
  have Hb2 := Lib.hid hb2
  clear hg2 hb2 hB2 hs2 Hb1
  go_wp2_with fail
  go_loopw [3] (fun i wr => ∃ k : Nat, k ≤ 60 ∧ i = .int .i64 k ∧ FB wr g2 101 60 (updR (fun _ => .int .i64 0) 0 k blankF) ∧ Touch g2 w2 wr) (fun i _ => (60 - intOf i).toNat)
  case atStart => exact ⟨0, by omega, rfl, Hb2.out.congr fun k _ => (updR_zero (fun _ => .int .i64 0) blankF 0 k).symm, Touch.refl _ _⟩
  case round =>
    obtain ⟨k, hk, rfl, hB, hT⟩ := hrel
    by_cases hlt : k < 60
    · have hlt' : (k : Int) < 60 := by omega
      have hk0 : (0 : Int) ≤ k := by omega
      have hx := hB.cell k hlt
      have hf := hB.frozen k
      have HBn := Lib.hid (hB.set_ k (.int .i64 3458764513820540928))
      have HTn := Lib.hid (hT.trans (Touch.set_ wr k (.int .i64 3458764513820540928)))
      clear hB hT hlt
      go_wp2_with fail
      go_roundw
      case rel =>
        refine ⟨k + 1, by omega, by go_num, HBn.out.congr fun j _ => ?_, HTn.out⟩
        have := updR_succ (fun _ => .int .i64 0) blankF 0 k j
        rw [Nat.zero_add] at this
        exact this
      case measure => simp [intOf]; omega
    · obtain rfl : k = 60 := by omega
      have hg12 : g1 ≠ g2 := by have := HG1.out; have := HG2.out; have := HS1.out; omega
      have h1 := Lib.hid (Hb1'.out.touch hT hg12)
      have HBl := Lib.hid (show Below w.heap.size w wr from HB2.out.trans (hT.below (by rw [HG2.out]; exact HB1.out.size) HB2.out.size))
      have h2 := Lib.hid (hB.congr (f' := blankF) fun k hk => by unfold updR; rw [if_pos (by omega)]; rfl)
      clear hT hB
      go_wp2_with (first
        | (refine wpList_load_all rfl 101 _ rfl g2 rfl 101 60 blankF _ h2.out Try.underlying101 rfl sizeRow ?_)
        | (refine wpList_store_all rfl 101 _ _ rfl g1 101 60 _ blankF rfl rfl h1.out sizeRow (fun _ _ => rfl) ?_; intro w3 h3 hT3 hs3))
      refine bodyPost_ret (result_seg rfl _ _ g1 _ 60 blankF _ rfl h3 Try.underlying101 rfl sizeRow) rfl ⟨rfl, ?_⟩
      exact HBl.out.trans (hT3.below (by rw [HG1.out]; exact Nat.le_refl _) HBl.out.size)
end Go.Proofs.Ytejcijbohnlbgaa
