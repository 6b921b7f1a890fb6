/- The row of an instruction, and an instruction's error, of the document's answer for package code. -/
import Derived.Test.YtaglclmfjopnlaaDoorRefF
import Derived.Test.YtaglclmfjopnlaaDoorCodeT
namespace Go.Proofs.YtaglclmfjopnlaaDoor
open Go.ChangeShapes Go.WideShapes Go.ChangeAt Go.RowKit
open Cod Bits
set_option linter.unusedVariables false
set_option linter.unusedSimpArgs false

abbrev zero11 : Array Value := row11 0 0 0 false false 0 0 0 0 0 false
def RRow.val (r : RRow) : Value := .agg (row11 r.code r.op r.size r.nar r.reg r.dst r.src r.off r.imm r.second r.writes)
theorem results_cell_tmp {P : Program} {fn : Func} {p q : Tmp} {ty : TypeId} (h : fn.results = #[.cell p ty, .tmp q]) (tmps : Array Value) (w : World) (g : Nat) (t : TypeId) (cs : Array Value) (fr : Nat × Nat) (d : TypeDesc) (v : Value)
    (hp : tmps.getD p undef = .pointer (some ⟨g, 0, none⟩)) (hq : tmps.getD q undef = v) (hg : w.heap[g]? = some (.cells cs t fr))
    (hu : P.underlying ty = some d) (hd : (match d with | .struct _ | .array _ _ => true | _ => false) = true) (hi : (P.info? ty).map (·.size) = some cs.size) :
    (results fn tmps).run P w = .ok (.tuple #[.agg cs, v]) w := by
  have hp' : tmps[p]?.getD undef = .pointer (some ⟨g, 0, none⟩) := by simpa using hp
  have hq' : tmps[q]?.getD undef = v := by simpa using hq
  simp [results, h, hp', hq', asAddr, run_loadVar_row w g t ty cs fr d hg hu hd hi]
def FindEnd (w : World) (r : Option RRow) (e : Ending) (w' : World) : Prop := e = .returned (.tuple #[(r.getD zeroR).val, .bool r.isSome]) ∧ Below w.heap.size w w'
theorem find_step {T : List RRow} {j : Nat} {r : RRow} (hr : T[j]? = some r) (p : RRow → Bool) : (T.drop j).find? p = if p r = true then some r else (T.drop (j + 1)).find? p := by
  have hj := (List.getElem?_eq_some_iff.1 hr).1
  have e : T[j] = r := (List.getElem?_eq_some_iff.1 hr).2
  rw [List.drop_eq_getElem_cons hj, e, List.find?_cons]
  cases p r <;> rfl
set_option maxRecDepth 100000 in
set_option maxHeartbeats 8000000 in
theorem find_any (w : World) (A : Option Addr) (n c : Nat) (T : List RRow) (hT : T.length = n) (hn : n ≤ 4096) (h : RowsAt w A T) (op : Int) (nar reg : Bool) (size dst src off imm : Int) :
    Calls Tryd.prog 38 #[.slice A n c, .agg (ins8 op nar reg size dst src off imm)] w (FindEnd w (T.find? fun r => r.fitsI op nar reg size)) := by
  have HA := Lib.hid h
  have HT := Lib.hid hT
  have HX := Lib.hid (show Blk ((w.alloc (.cells (ins8 op nar reg size dst src off imm) 41)).alloc (.cells zero11 65)) w.heap.size 41 (ins8 op nar reg size dst src off imm) from (Blk.new _ _ _).alloc _)
  have HZ := Lib.hid (blk_new2 w (.cells (ins8 op nar reg size dst src off imm) 41) 65 zero11)
  have HB := Lib.hid (below_box2 w (.cells (ins8 op nar reg size dst src off imm) 41) (.cells zero11 65))
  clear h hT
  go_enter Tryd.func38, Tryd.ntmps38
  go_wp2_with fail
  go_loopw [6] (fun i wr => ∃ j : Nat, j ≤ n ∧ i = .int .i64 j ∧ T.find? (fun r => r.fitsI op nar reg size) = (T.drop j).find? (fun r => r.fitsI op nar reg size) ∧ Blk wr w.heap.size 41 (ins8 op nar reg size dst src off imm) ∧ Blk wr (w.heap.size + 1) 65 zero11 ∧ Below w.heap.size w wr) (fun i _ => (n - intOf i).toNat)
  case atStart => exact ⟨0, Nat.zero_le _, rfl, rfl, HX.out, HZ.out, HB.out⟩
  case round =>
    clear HX HZ HB
    obtain ⟨j, hj, rfl, hf, hx, hz, hB⟩ := hrel
    by_cases hlt : j < n
    · have hlt' : (j : Int) < n := by omega
      obtain ⟨b, o, rfl, hbl, hc⟩ := HA.out (by have := HT.out; omega)
      obtain ⟨r, hr⟩ : ∃ r, T[j]? = some r := ⟨T[j]'(by have := HT.out; omega), List.getElem?_eq_getElem _⟩
      obtain ⟨y0, y1, y2, y3, y4, y5, y6, y7, y8, y9, y10⟩ := (hc j r hr).below hB hbl
      have HF := Lib.hid (hf.trans (find_step hr fun r => r.fitsI op nar reg size))
      have HFI := Lib.hid (show r.fitsI op nar reg size = (r.op == op && r.nar == nar && r.reg == reg && r.size == size) from rfl)
      obtain ⟨⟨c0, c1, c2, c3, c4, c5, c6, c7⟩, f0, f1, f2, f3, f4, f5, f6, f7⟩ := cells8 hx
      have HX := Lib.hid hx
      have HZ := Lib.hid hz
      have HB := Lib.hid hB
      have hs2 : w.heap.size + 1 < wr.heap.size := hz.lt
      have hs1 : w.heap.size < wr.heap.size := by omega
      clear hc hr hf hx hz hB
      obtain ⟨rc, ro, rz, rn, rr, rd, rs, rf, ri, r2, rw_⟩ := r
      simp only at y0 y1 y2 y3 y4 y5 y6 y7 y8 y9 y10 HFI HF
      rcases (show (ro == op) = false ∨ ((ro == op) = true ∧ (rn == nar) = false) ∨ ((ro == op) = true ∧ (rn == nar) = true ∧ (rr == reg) = false) ∨ ((ro == op) = true ∧ (rn == nar) = true ∧ (rr == reg) = true ∧ (rz == size) = false) ∨ ((ro == op) = true ∧ (rn == nar) = true ∧ (rr == reg) = true ∧ (rz == size) = true) by
        cases (ro == op) <;> cases (rn == nar) <;> cases (rr == reg) <;> cases (rz == size) <;> simp) with t0 | ⟨t0, t1⟩ | ⟨t0, t1, t2⟩ | ⟨t0, t1, t2, t3⟩ | ⟨t0, t1, t2, t3⟩
      · have HG := Lib.hid (show RRow.fitsI ⟨rc, ro, rz, rn, rr, rd, rs, rf, ri, r2, rw_⟩ op nar reg size = false by rw [HFI.out, t0]; rfl)
        clear HFI
        go_wp2_with fail
        go_roundw
        case rel => exact ⟨j + 1, by omega, by go_num, by rw [HF.out, if_neg (by rw [HG.out]; decide)], HX.out.alloc _, HZ.out.alloc _, HB.out.trans ((below_box wr _).mono HB.out.size)⟩
        case measure => simp [intOf]; omega
      · have HG := Lib.hid (show RRow.fitsI ⟨rc, ro, rz, rn, rr, rd, rs, rf, ri, r2, rw_⟩ op nar reg size = false by rw [HFI.out, t0, t1]; rfl)
        clear HFI
        go_wp2_with fail
        go_roundw
        case rel => exact ⟨j + 1, by omega, by go_num, by rw [HF.out, if_neg (by rw [HG.out]; decide)], HX.out.alloc _, HZ.out.alloc _, HB.out.trans ((below_box wr _).mono HB.out.size)⟩
        case measure => simp [intOf]; omega
      · have HG := Lib.hid (show RRow.fitsI ⟨rc, ro, rz, rn, rr, rd, rs, rf, ri, r2, rw_⟩ op nar reg size = false by rw [HFI.out, t0, t1, t2]; rfl)
        clear HFI
        go_wp2_with fail
        go_roundw
        case rel => exact ⟨j + 1, by omega, by go_num, by rw [HF.out, if_neg (by rw [HG.out]; decide)], HX.out.alloc _, HZ.out.alloc _, HB.out.trans ((below_box wr _).mono HB.out.size)⟩
        case measure => simp [intOf]; omega
      · have HG := Lib.hid (show RRow.fitsI ⟨rc, ro, rz, rn, rr, rd, rs, rf, ri, r2, rw_⟩ op nar reg size = false by rw [HFI.out, t0, t1, t2, t3]; rfl)
        clear HFI
        go_wp2_with fail
        go_roundw
        case rel => exact ⟨j + 1, by omega, by go_num, by rw [HF.out, if_neg (by rw [HG.out]; decide)], HX.out.alloc _, HZ.out.alloc _, HB.out.trans ((below_box wr _).mono HB.out.size)⟩
        case measure => simp [intOf]; omega
      · have HG := Lib.hid (show T.find? (fun r => r.fitsI op nar reg size) = some ⟨rc, ro, rz, rn, rr, rd, rs, rf, ri, r2, rw_⟩ by rw [HF.out, if_pos (by rw [HFI.out, t0, t1, t2, t3]; rfl)])
        have hi11 : (Tryd.prog.info? 65).map (·.size) = some 11 := by kernel_rfl
        have HI := Lib.hid hi11
        have hzz := HZ.out.alloc (.cells (row11 rc ro rz rn rr rd rs rf ri r2 rw_) 65)
        have HZZ := Lib.hid hzz
        have HBB := Lib.hid (HB.out.trans ((below_box wr (.cells (row11 rc ro rz rn rr rd rs rf ri r2 rw_) 65)).mono HB.out.size))
        clear HFI HF hzz hi11
        go_wp2_with (refine wpList_store_row rfl 65 (.tmp 4) (.tmp 44) rfl (w.heap.size + 1) (row11 rc ro rz rn rr rd rs rf ri r2 rw_) rfl rfl 65 zero11 HZZ.out HI.out rfl (by kernel_rfl) ?_)
        exact bodyPost_ret (v := .tuple #[.agg (row11 rc ro rz rn rr rd rs rf ri r2 rw_), .bool true]) (results_cell_tmp Tryd.results38 _ _ (w.heap.size + 1) 65 (row11 rc ro rz rn rr rd rs rf ri r2 rw_) (0, 0) _ _ rfl rfl (Blk.setRow HZZ.out _) Tryd.underlying65 rfl HI.out) rfl ⟨by rw [HG.out]; rfl, Below.setRow HBB.out (Nat.le_succ _) _⟩
    · obtain rfl : j = n := by omega
      have hjn : decide (j < j) = false := decide_eq_false (by omega)
      have HG := Lib.hid (show T.find? (fun r => r.fitsI op nar reg size) = none by rw [hf, List.drop_eq_nil_of_le (by rw [HT.out]; exact Nat.le_refl _)]; rfl)
      have hi11 : (Tryd.prog.info? 65).map (·.size) = some 11 := by kernel_rfl
      have HI := Lib.hid hi11
      have HZZ := Lib.hid hz
      have HBB := Lib.hid hB
      clear hi11 hf hx hz hB HA
      go_wp2_with (refine wpList_store_row rfl 65 (.tmp 4) (.tmp 45) rfl (w.heap.size + 1) zero11 rfl rfl 65 zero11 HZZ.out HI.out rfl (by kernel_rfl) ?_)
      exact bodyPost_ret (v := .tuple #[.agg zero11, .bool false]) (results_cell_tmp Tryd.results38 _ _ (w.heap.size + 1) 65 zero11 (0, 0) _ _ rfl rfl (Blk.setRow HZZ.out _) Tryd.underlying65 rfl HI.out) rfl ⟨by rw [HG.out]; rfl, Below.setRow HBB.out (Nat.le_succ _) _⟩
end Go.Proofs.YtaglclmfjopnlaaDoor
