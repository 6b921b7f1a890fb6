/- Package jumps: Goals. -/
import Derived.Test.YtpigkppnelnhiaaGreatMcX
namespace Go.Proofs.YtpigkppnelnhiaaGreat
open Go.ChangeShapes Go.WideShapes Go.ChangeAt Go.RowKit
open Cod Bits
set_option linter.unusedVariables false
set_option linter.unusedSimpArgs false
set_option maxRecDepth 100000
def zI : Ins := ⟨0, false, false, 0, 0, 0, 0, 0⟩
/-- the goals, as far as place k -/
def gRow (L : List Ins) (n k : Nat) : List Int := (List.range n).map fun j => if j < k then goalN L j (L[j]?.getD zI) else 0
theorem gRow_length (L : List Ins) (n k : Nat) : (gRow L n k).length = n := by simp [gRow]
theorem gRow_start (L : List Ins) (n : Nat) : gRow L n 0 = zerosL n := by
  refine List.ext_getElem (by simp [gRow, zerosL]) fun i h1 h2 => ?_
  simp [gRow, zerosL]
theorem gRow_end (L : List Ins) : gRow L L.length L.length = goalsL L := by
  refine List.ext_getElem (by simp [gRow, goalsL]) fun i h1 h2 => ?_
  rw [gRow_length] at h1
  simp only [gRow, goalsL, List.getElem_map, List.getElem_range]
  rw [if_pos h1]
  rfl
theorem gRow_step (L : List Ins) (n k : Nat) (h : k < n) (i : Ins) (hi : L[k]? = some i) (v : Int) (hv : goalN L k i = v) : (gRow L n k).set k v = gRow L n (k + 1) := by
  refine List.ext_getElem (by simp [gRow]) fun j h1 h2 => ?_
  rw [List.getElem_set]
  simp only [gRow, List.getElem_map, List.getElem_range]
  by_cases e : k = j
  · subst e
    rw [if_pos rfl, if_pos (by omega), hi]
    exact hv.symm
  · rw [if_neg e]
    by_cases h3 : j < k
    · rw [if_pos h3, if_pos (by omega)]
    · rw [if_neg h3, if_neg (by omega)]
theorem gRow_two (L : List Ins) (n k : Nat) (h : k < n) (i : Ins) (hi : L[k]? = some i) (u v : Int) (hv : goalN L k i = v) : ((gRow L n k).set k u).set k v = gRow L n (k + 1) := by
  rw [List.set_set]; exact gRow_step L n k h i hi v hv
theorem IntBlk.up {w w' : World} {g : Nat} {L : List Int} (h : IntBlk w g L) (hb : Below w.heap.size w w') : IntBlk w' g L := (hb.block g (Blk.lt h)).trans h
set_option maxHeartbeats 8000000 in
theorem goals_v (w : World) (A : Option Addr) (n c : Nat) (L : List Ins) (hL : L.length = n) (hn : n ≤ 4096) (h : CodeAt w A L) :
    Calls Tryz.prog 23 #[.slice A n c] w fun e w' => ∃ b, e = .returned (.slice (some ⟨b, 0, none⟩) n n) ∧ IntBlk w' b (goalsL L) ∧ w.heap.size ≤ b ∧ Below w.heap.size w w' := by
  have hmk : ∀ w, (Instr.makeSlice 37 (.int .i64 (n : Int)) (.int .i64 (n : Int))).run Tryz.prog w = .ok (.slice (some ⟨w.heap.size, 0, none⟩) n n) (w.alloc (.cells ((zerosL n).map (Value.int .i64)).toArray 3)) := fun w => make_ints n (by omega) w
  have hU := Lib.hid (units_any w A n c L hL (by omega) h)
  have HA := Lib.hid h
  have HL := Lib.hid hL
  clear h hL
  go_enter Tryz.func23, Tryz.ntmps23
  go_wp2_with fail
  go_at_call 47
  refine hU.out.mono ?_
  rintro e w1 ⟨rfl, hUB, hB1⟩
  have hGB := IntBlk.new w1 (zerosL n)
  have hB2 := hB1.trans ((box1 w1 (.cells ((zerosL n).map (Value.int .i64)).toArray 3)).mono hB1.size)
  have hUB2 := hUB.up (box1 w1 (.cells ((zerosL n).map (Value.int .i64)).toArray 3))
  have hug : w.heap.size < w1.heap.size := Blk.lt hUB
  clear hU hUB hB1
  go_upto_region 3 with (fail)
  rw [← gRow_start L n] at hGB
  rw [← gRow_start L n] at hB2 hUB2 ⊢
  clear hmk
  generalize (w1.alloc (.cells ((gRow L n 0).map (Value.int .i64)).toArray 3)) = w2 at *
  generalize w1.heap.size = gb at *
  have HG0 := Lib.hid hGB
  have HU0 := Lib.hid hUB2
  have HB0 := Lib.hid hB2
  clear hGB hUB2 hB2
  go_wp2_with fail
  go_loopw [5, 6, 7, 8, 16] (fun _ _ _ _ i wr => ∃ k : Nat, k ≤ n ∧ i = .int .i64 k ∧ IntBlk wr gb (gRow L n k) ∧ IntBlk wr w.heap.size (unitsL L) ∧ Below w.heap.size w wr) (fun _ _ _ _ i _ => (n - intOf i).toNat)
  case atStart => exact ⟨0, Nat.zero_le _, rfl, HG0.out, HU0.out, HB0.out⟩
  case round =>
    clear HG0 HU0 HB0
    obtain ⟨k, hk, rfl, hG, hUu, hB⟩ := hrel
    by_cases hlt : k < n
    · have hlt' : (k : Int) < n := by omega
      obtain ⟨b, off, rfl, hbl, hc⟩ := HA.out (by have := HL.out; omega)
      obtain ⟨i, hi⟩ : ∃ i, L[k]? = some i := ⟨L[k]'(by have := HL.out; omega), List.getElem?_eq_getElem _⟩
      obtain ⟨x0, x1, x2, x3, x4, x5, x6, x7⟩ := (hc k i hi).below hB hbl
      have hbx : Blk (wr.alloc (.cells i.cells.toArray 57)) wr.heap.size 57 i.cells.toArray := Blk.new _ _ _
      have hB3 := box1 wr (.cells i.cells.toArray 57)
      have hgl := Blk.lt hG
      have HI := Lib.hid hi
      clear hc
      obtain ⟨op, nar, reg, size, dst, src, io, imm⟩ := i
      simp only [Ins.cells] at x0 x1 x2 x3 x4 x5 x6 x7 hbx hB3
      go_upto_region 6 with (fail)
      have hG3 := hG.up hB3
      have hU3 := hUu.up hB3
      have hB4 := hB.trans (hB3.mono hB.size)
      have hgx : gb ≠ wr.heap.size := by omega
      have hux : w.heap.size ≠ gb := by omega
      have hle : w.heap.size ≤ gb := by omega
      clear hB3 hG hUu hB x0 x1 x2 x3 x4 x5 x6 x7
      generalize (wr.alloc (.cells #[.int .i64 op, .bool nar, .bool reg, .int .i64 size, .int .i64 dst, .int .i64 src, .int .i64 io, .int .i64 imm] 57)) = w3 at *
      generalize wr.heap.size = bx at *
      have c1 := hG3.cell k (by rw [gRow_length]; exact hlt)
      have f1 := hG3.frozen k
      have hset := hG3.set_ k (-1)
      have hT := Touch.set_ (g := gb) w3 k (.int .i64 (-1))
      have hbx4 := Blk.touch hbx hT (Ne.symm hgx)
      have hU4 : IntBlk (w3.setCell ⟨gb, k, none⟩ (.int .i64 (-1))) w.heap.size (unitsL L) := Blk.touch hU3 hT hux
      have hB5 := hB4.setCell (p := ⟨gb, k, none⟩) hle (.int .i64 (-1))
      clear hG3 hU3 hB4 hT hbx
      go_upto_region 7 with (fail)
      clear c1 f1
      generalize (w3.setCell ⟨gb, k, none⟩ (.int .i64 (-1))) = w4 at *
      obtain ⟨y0, y1, y2, y3, y4, y5, y6, y7⟩ := hbx4.eight
      have HSET := Lib.hid hset
      have HBX := Lib.hid hbx4
      have HUU := Lib.hid hU4
      have HB5 := Lib.hid hB5
      clear hset hbx4 hU4 hB5
      cases tj : (decide (26 ≤ op) && decide (op ≤ 37))
      · have hgn := gRow_step L n k hlt _ hi (-1) (by unfold goalN; rw [if_neg (by simp only; rw [tj]; exact Bool.false_ne_true)])
        have HGN := Lib.hid hgn
        clear hgn hi
        go_wp2_with (go_at_call 48; refine (is_v _ _).mono ?_; rw [tj]; rintro e w' ⟨rfl, rfl⟩)
        go_roundw
        case rel => exact ⟨k + 1, by omega, by go_num, by rw [← HGN.out]; exact HSET.out, HUU.out, HB5.out⟩
        case measure => simp [intOf]; omega
      · have hkn : (k : Int) + 1 < n + 1 := by omega
        have hk0 : (0 : Int) ≤ (k : Int) + 1 := by omega
        have hkt : ((k : Int) + 1).toNat = k + 1 := by omega
        have hkw : IntKind.i64.wrap ((k : Int) + 1) = k + 1 := IntWalk.i64_in _ (by omega)
        have hn0 : (0 : Int) ≤ n := by omega
        have hnn : (n : Int) ≤ n + 1 := by omega
        have hnw : n ≤ n + 1 := by omega
        have hun := HUU.out.cell (k + 1) (by unfold unitsL; simp; have := HL.out; omega)
        rw [unitsL_get L (k + 1) (by have := HL.out; omega)] at hun
        obtain ⟨ua, hua⟩ : ∃ ua, uAt L (k + 1) = ua := ⟨_, rfl⟩
        rw [hua] at hun
        have HUA := Lib.hid hua
        obtain ⟨dd, hdd⟩ : ∃ dd, distI ⟨op, nar, reg, size, dst, src, io, imm⟩ = dd := ⟨_, rfl⟩
        have HDD := Lib.hid (fun w => by have := distance_i op nar reg size dst src io imm w; rw [hdd] at this; exact this)
        have HDE := Lib.hid hdd
        have hTL : ((unitsL L).take n).length = n := by rw [List.length_take]; unfold unitsL; simp; have := HL.out; omega
        have hTG : ∀ q, q < n → ((unitsL L).take n)[q]?.getD 0 = uAt L q := fun q hq => by
          rw [List.getElem?_take, if_pos hq]; exact unitsL_get L q (by have := HL.out; omega)
        have HBS := Lib.hid (fun (wq : World) (hq : IntBlk wq w.heap.size (unitsL L)) (t : Int) => bs_v wq (some ⟨w.heap.size, 0, none⟩) n (n + 1) ((unitsL L).take n) t hTL (by omega) (fun hp => ⟨w.heap.size, 0, rfl, Blk.lt hq, fun j hj => by
          rw [Nat.zero_add, hq.cell j (by rw [hTL] at hj; unfold unitsL; simp; have := HL.out; omega), hTG j (by rw [hTL] at hj; exact hj), unitsL_get L j (by rw [hTL] at hj; have := HL.out; omega)]⟩))
        have HTG := Lib.hid hTG
        have HUP := Lib.hid (fun (wq : World) (hb : Below w4.heap.size w4 wq) => HUU.out.up hb)
        have HBP := Lib.hid (fun (wq : World) (hb : Below w4.heap.size w4 wq) => (HBX.out.up hb).eight)
        clear hua hdd hTL hTG hi
        go_wp2_with (go_at_call 48; refine (is_v _ _).mono ?_; rw [tj]; rintro e w' ⟨rfl, rfl⟩)
        go_region_held3 (fun w' => w'.cell? ⟨w.heap.size, k + 1, none⟩ = some (.int .i64 ua) ∧ w'.cell? ⟨bx, 0, none⟩ = some (.int .i64 op) ∧ w'.cell? ⟨bx, 1, none⟩ = some (.bool nar) ∧ w'.cell? ⟨bx, 2, none⟩ = some (.bool reg) ∧ w'.cell? ⟨bx, 3, none⟩ = some (.int .i64 size) ∧ w'.cell? ⟨bx, 4, none⟩ = some (.int .i64 dst) ∧ w'.cell? ⟨bx, 5, none⟩ = some (.int .i64 src) ∧ w'.cell? ⟨bx, 6, none⟩ = some (.int .i64 io) ∧ w'.cell? ⟨bx, 7, none⟩ = some (.int .i64 imm))
          (first | exact ⟨hun, y0, y1, y2, y3, y4, y5, y6, y7⟩ | exact ⟨hun5, HBP.out _ hB6⟩ | fail)
          (first | (go_at_call 50; refine (HDD.out _).mono ?_; rintro e w5 ⟨rfl, hB6'⟩; have hB6 := (bdrw (Below.refl w4.heap.size w4)).trans hB6'; have hU5 := HUP.out _ hB6; have hun5 := hU5.cell (k + 1) (by unfold unitsL; simp; have := HL.out; omega); rw [unitsL_get L (k + 1) (by have := HL.out; omega), HUA.out] at hun5) | (go_at_call 49; refine (HBS.out _ hU5 _).mono ?_; rintro e w6 ⟨p, hpn, rfl, rfl, hps⟩))
        obtain ⟨t, ht⟩ : ∃ t, IntKind.i64.wrap (ua + dd) = t := ⟨_, rfl⟩
        have htt : wrap64 (uAt L (k + 1) + distI ⟨op, nar, reg, size, dst, src, io, imm⟩) = t := by rw [HUA.out, HDE.out, ← IntWalk.i64_left]; exact ht
        rw [ht] at hps ⊢
        have hps' := hps (fun a b h1 h2 => by rw [HTG.out a (by omega), HTG.out b h2]; exact uAt_lt L a b h1 (by have := HL.out; omega))
        have hgn : goalN L k ⟨op, nar, reg, size, dst, src, io, imm⟩ = if (decide (p < n) && (((unitsL L).take n)[p]?.getD 0 == t)) = true then (p : Int) else -1 := by
          unfold goalN
          rw [if_pos (by simp only; exact tj), htt, goal_found (p := p) (by have := HL.out; omega) (fun q hq => by have := hps'.1 q hq; rwa [HTG.out q (by omega)] at this) (fun q h1 h2 => by have := hps'.2 q h1 (by have := HL.out; omega); rwa [HTG.out q (by have := HL.out; omega)] at this)]
          have hl := HL.out
          subst hl
          by_cases hp : p < L.length
          · rw [HTG.out p hp]
          · rw [decide_eq_false hp]; rfl
        obtain ⟨fb, hfb⟩ : ∃ fb, (decide (p < n) && (((unitsL L).take n)[p]?.getD 0 == t)) = fb := ⟨_, rfl⟩
        rw [hfb] at hgn ⊢
        have HGN := Lib.hid hgn
        have HSET5 := Lib.hid ((show IntBlk w4.drew gb _ from HSET.out).up hB6')
        have HB7 := Lib.hid ((bdrw HB5.out).trans (hB6'.mono HB5.out.size))
        have HU7 := Lib.hid hU5
        have hle2 := hle
        clear hps hps' hgn hfb htt ht hB6 hB6' hU5 hun5 HBS HDD HUP HBP HTG HDE HUA HUU HB5 HBX HSET y0 y1 y2 y3 y4 y5 y6 y7
        cases fb
        · have HG9 := Lib.hid (gRow_step L n k hlt _ HI.out (-1) (by rw [HGN.out]; rfl))
          go_wp2_with fail
          go_roundw
          case rel => exact ⟨k + 1, by omega, by go_num, by rw [← HG9.out]; exact HSET5.out, HU7.out, HB7.out⟩
          case measure => simp [intOf]; omega
        · have HG9 := Lib.hid (gRow_two L n k hlt _ HI.out (-1) p (by rw [HGN.out]; rfl))
          have c1 := HSET5.out.cell k (by rw [List.length_set, gRow_length]; exact hlt)
          have f1 := HSET5.out.frozen k
          go_wp2_with fail
          go_roundw
          case rel => exact ⟨k + 1, by omega, by go_num, by rw [← HG9.out]; exact HSET5.out.set_ k p, Blk.touch HU7.out (Touch.set_ (g := gb) _ k (.int .i64 p)) hux, HB7.out.setCell (p := ⟨gb, k, none⟩) hle2 (.int .i64 p)⟩
          case measure => simp [intOf]; omega
    · obtain rfl : k = n := by omega
      have hge := gRow_end L
      rw [HL.out] at hge
      rw [hge] at hG
      have HG := Lib.hid hG
      clear hG hge
      go_wp2_with fail
      go_ret
      exact ⟨gb, rfl, HG.out, by omega, hB⟩
end Go.Proofs.YtpigkppnelnhiaaGreat
