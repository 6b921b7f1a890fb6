/- Texts in one: CodeE1 CodeE2. -/
import Derived.Test.YtaglclmfjopnlaaDoorCodeD4
import Derived.Deep.QuietTactic
/- Lists that are compared: instructions, numbers, bytes; where they are the same. -/
namespace Go.Proofs.YtaglclmfjopnlaaDoor
open Go.ChangeShapes Go.WideShapes Go.ChangeAt Go.RowKit
open Cod Bits
set_option linter.unusedVariables false
set_option linter.unusedSimpArgs false

set_option maxHeartbeats 2000000 in
theorem sameCode_yes (w : World) (A : Option Addr) (n c : Nat) (A' : Option Addr) (c' : Nat) (L : List Ins) (hL : L.length = n) (hn : n ≤ 4611686018427387904) (h : CodeAt w A L) (h' : CodeAt w A' L) :
    Calls Tryd.prog 32 #[.slice A n c, .slice A' n c'] w fun e w' => e = .returned (.bool true) ∧ Below w.heap.size w w' := by
  have HA := Lib.hid h
  have HA' := Lib.hid h'
  have HL := Lib.hid hL
  clear h h' hL
  go_enter Tryd.func32, Tryd.ntmps32
  go_wp2_with fail
  go_loopw [5] (fun i wr => ∃ j : Nat, j ≤ n ∧ i = .int .i64 j ∧ Below w.heap.size w wr) (fun i _ => (n - intOf i).toNat)
  case atStart => exact ⟨0, Nat.zero_le _, rfl, Below.refl _ _⟩
  case round =>
    obtain ⟨j, hj, rfl, hB⟩ := hrel
    by_cases hlt : j < n
    · have hlt' : (j : Int) < n := by omega
      obtain ⟨b, off, rfl, hbl, hc⟩ := HA.out (by have := HL.out; omega)
      obtain ⟨b', off', rfl, hbl', hc'⟩ := HA'.out (by have := HL.out; omega)
      obtain ⟨i, hi⟩ : ∃ i, L[j]? = some i := ⟨L[j]'(by have := HL.out; omega), List.getElem?_eq_getElem _⟩
      have hx := (hc j i hi).below hB hbl
      have hy := (hc' j i hi).below hB hbl'
      clear hc hc' hi
      obtain ⟨op, nar, reg, size, dst, src, io, imm⟩ := i
      obtain ⟨x0, x1, x2, x3, x4, x5, x6, x7⟩ := hx
      obtain ⟨y0, y1, y2, y3, y4, y5, y6, y7⟩ := hy
      simp only at x0 x1 x2 x3 x4 x5 x6 x7 y0 y1 y2 y3 y4 y5 y6 y7
      have HB := Lib.hid hB
      clear hB
      go_wp2_with fail
      go_quiet (fail)
      go_wp2_with fail
      go_roundw
      case rel => exact ⟨j + 1, by omega, by go_num, belowDrewN HB.out _⟩
      case measure => simp [intOf]; omega
    · have hlt' : decide ((j : Int) < n) = false := by simp; omega
      go_wp2_with fail
      go_ret
      exact ⟨rfl, hB⟩
set_option maxHeartbeats 2000000 in
theorem sameInts_yes (w : World) (A : Option Addr) (n c : Nat) (A' : Option Addr) (c' : Nat) (L : List Int) (hL : L.length = n) (hn : n ≤ 4611686018427387904) (h : IntsAt w A L) (h' : IntsAt w A' L) :
    Calls Tryd.prog 45 #[.slice A n c, .slice A' n c'] w fun e w' => e = .returned (.bool true) ∧ Below w.heap.size w w' := by
  have HA := Lib.hid h
  have HA' := Lib.hid h'
  have HL := Lib.hid hL
  clear h h' hL
  go_enter Tryd.func45, Tryd.ntmps45
  go_wp2_with fail
  go_loopw [5] (fun i wr => ∃ j : Nat, j ≤ n ∧ i = .int .i64 j ∧ Below w.heap.size w wr) (fun i _ => (n - intOf i).toNat)
  case atStart => exact ⟨0, Nat.zero_le _, rfl, Below.refl _ _⟩
  case round =>
    obtain ⟨j, hj, rfl, hB⟩ := hrel
    by_cases hlt : j < n
    · have hlt' : (j : Int) < n := by omega
      obtain ⟨b, off, rfl, hbl, hc⟩ := HA.out (by have := HL.out; omega)
      obtain ⟨b', off', rfl, hbl', hc'⟩ := HA'.out (by have := HL.out; omega)
      have x0 := (hB.cell (p := ⟨b, off + j, none⟩) hbl).trans (hc j (by have := HL.out; omega))
      have y0 := (hB.cell (p := ⟨b', off' + j, none⟩) hbl').trans (hc' j (by have := HL.out; omega))
      clear hc hc'
      generalize L[j]?.getD 0 = x at *
      have HB := Lib.hid hB
      clear hB
      go_wp2_with fail
      go_quiet (fail)
      go_wp2_with fail
      go_roundw
      case rel => exact ⟨j + 1, by omega, by go_num, belowDrewN HB.out _⟩
      case measure => simp [intOf]; omega
    · have hlt' : decide ((j : Int) < n) = false := by simp; omega
      go_wp2_with fail
      go_ret
      exact ⟨rfl, hB⟩
end Go.Proofs.YtaglclmfjopnlaaDoor
/- What the laws of package code ask first: one small program, both ways. -/
namespace Go.Proofs.YtaglclmfjopnlaaDoor
open Go.ChangeShapes Go.WideShapes Go.ChangeAt Go.RowKit
open Cod Bits
set_option linter.unusedVariables false
set_option linter.unusedSimpArgs false

theorem lawSame_yes (w : World) (A : Option Addr) (n c : Nat) (A' : Option Addr) (c' : Nat) (L : List Ins) (hL : L.length = n) (hn : n ≤ 4611686018427387904) (h : CodeAt w A L) (h' : CodeAt w A' L) :
    Calls Tryd.prog 12 #[.slice A n c, .slice A' n c'] w fun e w' => e = .returned (.bool true) ∧ Below w.heap.size w w' := by
  have HC := Lib.hid (sameCode_yes w A n c A' c' L hL hn h h')
  clear h h'
  go_enter Tryd.func12, Tryd.ntmps12
  go_wp2_with fail
  refine HC.out.mono ?_
  rintro e w1 ⟨rfl, hB⟩
  go_wp2_with fail
  go_ret
  exact ⟨rfl, hB⟩
theorem lawInts_yes (w : World) (A : Option Addr) (n c : Nat) (A' : Option Addr) (c' : Nat) (L : List Int) (hL : L.length = n) (hn : n ≤ 4611686018427387904) (h : IntsAt w A L) (h' : IntsAt w A' L) :
    Calls Tryd.prog 25 #[.slice A n c, .slice A' n c'] w fun e w' => e = .returned (.bool true) ∧ Below w.heap.size w w' := by
  have HC := Lib.hid (sameInts_yes w A n c A' c' L hL hn h h')
  clear h h'
  go_enter Tryd.func25, Tryd.ntmps25
  go_wp2_with fail
  refine HC.out.mono ?_
  rintro e w1 ⟨rfl, hB⟩
  go_wp2_with fail
  go_ret
  exact ⟨rfl, hB⟩
theorem lawBytes_yes (w : World) (A : Option Addr) (n c : Nat) (A' : Option Addr) (c' : Nat) (L : List Int) (hL : L.length = n) (hp : 0 < n) (h : BytesAt w A L) (h' : BytesAt w A' L) :
    Calls Tryd.prog 13 #[.slice A n c, .slice A' n c'] w fun e w' => e = .returned (.bool true) ∧ w = w' := by
  have HC := Lib.hid (same_yes w A n c A' c' L hL hp h h')
  clear h h'
  go_enter Tryd.func13, Tryd.ntmps13
  go_wp2_with fail
  refine HC.out.mono ?_
  rintro e w1 ⟨rfl, rfl⟩
  go_wp2_with fail
  go_ret
  exact ⟨rfl, rfl⟩
def knownL : List Ins := [⟨15, false, false, 0, 0, 0, 0, 5⟩, ⟨20, false, false, 0, 4, 0, 0, 8589934591⟩, ⟨39, false, false, 0, 0, 0, 0, 0⟩]
def knownB : List Int := [183, 0, 0, 0, 5, 0, 0, 0, 24, 4, 0, 0, 255, 255, 255, 255, 0, 0, 0, 0, 1, 0, 0, 0, 149, 0, 0, 0, 0, 0, 0, 0]
theorem known_enc : encB knownL = knownB := by kernel_rfl
theorem known_chk : (checkL knownL 0).2 = 0 := by kernel_rfl
theorem known_dec : D knownB 0 0 = (0, 0, knownL) := by kernel_rfl
theorem known_cut : D (knownB.take 16) 0 0 = (20, 1, []) := by kernel_rfl
theorem known_units : unitsL knownL = [0, 1, 3, 4] := by kernel_rfl
theorem known_bytes : BytesL knownB := by
  intro x hx
  unfold knownB at hx
  simp only [List.mem_cons, List.not_mem_nil, or_false] at hx
  unfold IsB
  omega
/-- a long list of operations, laid in two pieces -/
theorem plain_list2 (P : Program) (i : Nat) (l m : List Oper) (b : Bool) (Q : Exit → Act → World → Prop) (a : Act) (w : World) : Code.wp P (Code.region i (l.append m).toArray b) Q a w = Code.wp P (Code.region i (l ++ m).toArray b) Q a w := rfl
theorem flat_get : ∀ (L : List Ins) (j : Nat) (i : Ins), L[j]? = some i → ∀ k, k < 8 → (L.flatMap Ins.cells)[j * 8 + k]? = i.cells[k]?
  | [], j, i, h, _, _ => by simp at h
  | a :: t, 0, i, h, k, hk => by
    have e : a = i := by simpa using h
    subst e
    rw [List.flatMap_cons, List.getElem?_append_left (by simp [Ins.cells]; omega)]
    simp
  | a :: t, j + 1, i, h, k, hk => by
    have h2 : t[j]? = some i := by simpa using h
    have hl : a.cells.length = 8 := rfl
    rw [List.flatMap_cons, List.getElem?_append_right (by omega), hl, show (j + 1) * 8 + k - 8 = j * 8 + k by omega]
    exact flat_get t j i h2 k hk
theorem codeAt_cells {w : World} {g : Nat} {L : List Ins} (hlt : g < w.heap.size) (h : ∀ m v, (L.flatMap Ins.cells)[m]? = some v → w.cell? ⟨g, m, none⟩ = some v) : CodeAt w (some ⟨g, 0, none⟩) L := fun _ =>
  ⟨g, 0, rfl, hlt, fun j i hi => by
    have k := flat_get L j i hi
    rw [Nat.zero_add]
    exact ⟨h _ _ (k 0 (by decide)), h _ _ (k 1 (by decide)), h _ _ (k 2 (by decide)), h _ _ (k 3 (by decide)), h _ _ (k 4 (by decide)), h _ _ (k 5 (by decide)), h _ _ (k 6 (by decide)), h _ _ (k 7 (by decide))⟩⟩
theorem OwnI.codeAt {w : World} {base : Nat} {v : Value} {L : List Ins} (h : OwnI w base v L) : ∃ A c, v = .slice A L.length c ∧ CodeAt w A L := by
  rcases h.2 with ⟨hv, hn⟩ | ⟨g, cap, cur, hv, hg, hh, hnc, hcm, hcs, hx⟩
  · exact ⟨none, 0, by rw [hv, hn], fun hp => by omega⟩
  · have hlt : g < w.heap.size := by
      rcases Nat.lt_or_ge g w.heap.size with h1 | h1
      · exact h1
      · rw [Array.getElem?_eq_none h1] at hh; cases hh
    refine ⟨_, cap, hv, codeAt_cells hlt fun m u hm => ?_⟩
    rw [cell_of_row w g m cur 41 (0, 0) hh]
    rw [← hx] at hm
    have h2 : (cur.toList.take (L.length * 8))[m]? = some u := hm
    rw [List.getElem?_take] at h2
    split at h2
    · simpa using h2
    · cases h2
theorem left_of {w : World} {g n c : Nat} {L : List Int} (h : BytesAt w (some ⟨g, 0, none⟩) L) (hL : L.length = n) (hc : n ≤ c) (hb : BytesL L) : Left w w.heap.size (some ⟨g, 0, none⟩) n c L :=
  ⟨hL, hb, fun hn => by
    obtain ⟨b, off, e, hl, hx⟩ := h (by omega)
    exact ⟨hc, b, off, e, hl, hx⟩⟩
set_option maxRecDepth 100000 in
set_option maxHeartbeats 4000000 in
theorem known_any (w : World) (ht : Tabs w) : Calls Tryd.prog 8 #[] w fun e w' => e = .returned (.bool true) ∧ Below w.heap.size w w' := by
  have hc0 : CodeAt (w.alloc (.cells (knownL.flatMap Ins.cells).toArray 41)) (some ⟨w.heap.size, 0, none⟩) knownL := codeAt_cells (by simp) fun m v hm => by
    rw [(Blk.new w 41 (knownL.flatMap Ins.cells).toArray).cell m]
    simpa using hm
  have hB0 := below_box w (.cells (knownL.flatMap Ins.cells).toArray 41)
  have HC := Lib.hid (hc0)
  have HEN := Lib.hid (encode_ok _ _ 3 3 knownL rfl (by decide) hc0 (ht.below hB0) known_chk)
  have HT := Lib.hid (ht.below hB0)
  have HB := Lib.hid hB0
  clear hc0 hB0 ht
  go_enter Tryd.func8, Tryd.ntmps8
  go_wp2_with fail
  refine HEN.out.mono ?_
  rintro e w2 ⟨v, rfl, hown, hB2⟩
  obtain ⟨A2, c2, rfl, hby⟩ := hown.form
  rw [known_enc] at hby ⊢
  have HBY := Lib.hid hby
  have hw2 := HB.out.trans (hB2.mono HB.out.size)
  have HC2 := Lib.hid (HC.out.below hB2)
  have HT2 := Lib.hid (HT.out.below hB2)
  have HB2 := Lib.hid hw2
  clear hby hw2 hown hB2 HEN HC HT HB
  have hb3 := below_box w2 (.cells (knownB.map (Value.int .u8)).toArray 5)
  have hbb : ByteBlk (w2.alloc (.cells (knownB.map (Value.int .u8)).toArray 5)) w2.heap.size knownB := heap_alloc_new w2 _
  have HDE := Lib.hid (decode_any (w2.alloc (.cells (knownB.map (Value.int .u8)).toArray 5)) (some ⟨w2.heap.size, 0, none⟩) 32 32 knownB (left_of hbb.at_ rfl (Nat.le_refl _) known_bytes) (by decide) (HT2.out.below hb3))
  have HBB := Lib.hid hbb
  have HBY3 := Lib.hid (HBY.out.below hb3)
  have HC3 := Lib.hid (HC2.out.below hb3)
  have HT3 := Lib.hid (HT2.out.below hb3)
  have HB3 := Lib.hid (HB2.out.trans (hb3.mono HB2.out.size))
  clear hb3 hbb HBY HC2 HT2 HB2
  rw [show knownB.length = 32 from rfl]
  go_wp2_with fail
  refine HDE.out.mono ?_
  rintro e w4 ⟨v4, rfl, hown, hB4⟩
  rw [known_dec] at hown ⊢
  obtain ⟨A4, c4, rfl, hca⟩ := hown.codeAt
  have hb4 := HBB.out.below hB4 HBB.out.lt
  have htk : BytesAt w4 (some ⟨w2.heap.size, 0, none⟩) (knownB.take 16) := fun hp => ⟨w2.heap.size, 0, rfl, hb4.lt, fun i hi => by
    have hi16 : i < 16 := hi
    rw [Nat.zero_add, hb4.cell i (by show i < 32; omega), List.getElem?_take, if_pos hi16]⟩
  have HDE2 := Lib.hid (decode_any w4 (some ⟨w2.heap.size, 0, none⟩) 16 32 (knownB.take 16) (left_of htk rfl (by decide) (fun x hx => known_bytes x (List.mem_of_mem_take hx))) (by decide) (HT3.out.below hB4))
  have HBB4 := Lib.hid hb4
  have HBY4 := Lib.hid (HBY3.out.below hB4)
  have HC4 := Lib.hid (HC3.out.below hB4)
  have HCA := Lib.hid hca
  have HB4 := Lib.hid (HB3.out.trans (hB4.mono HB3.out.size))
  clear hb4 htk hca hown hB4 HDE HBB HBY3 HC3 HT3 HB3
  rw [show knownL.length = 3 from rfl]
  go_wp2_with fail
  refine HDE2.out.mono ?_
  rintro e w5 ⟨v5, rfl, hown5, hB5⟩
  rw [known_cut]
  obtain ⟨A5, c5, rfl, _⟩ := hown5.codeAt
  have hb5 := HBB4.out.below hB5 HBB4.out.lt
  have HSB := Lib.hid (lawBytes_yes w5 A2 32 c2 (some ⟨w2.heap.size, 0, none⟩) 32 knownB rfl (by decide) (HBY4.out.below hB5) hb5.at_)
  have HC5 := Lib.hid (HC4.out.below hB5)
  have HSC := Lib.hid (lawSame_yes w5 (some ⟨w.heap.size, 0, none⟩) 3 3 A4 c4 knownL rfl (by decide) HC5.out (HCA.out.below hB5))
  have HB5 := Lib.hid (HB4.out.trans (hB5.mono HB4.out.size))
  clear hb5 hown5 hB5 HDE2 HBB4 HBY4 HC4 HCA HB4
  go_wp2_with fail
  go_at_call 13
  refine HSB.out.mono ?_
  rintro e w6 ⟨rfl, rfl⟩
  go_wp2_with fail
  go_at_call 12
  refine HSC.out.mono ?_
  rintro e w6 ⟨rfl, hB6⟩
  have HUN := Lib.hid (units_any w6 (some ⟨w.heap.size, 0, none⟩) 3 3 knownL rfl (by decide) (HC5.out.below hB6))
  have HB6 := Lib.hid (HB5.out.trans (hB6.mono HB5.out.size))
  clear hB6 HSB HSC HC5 HB5
  go_wp2_with fail
  go_at_call 23
  refine HUN.out.mono ?_
  rintro e w7 ⟨rfl, hblk, hB7⟩
  rw [known_units] at hblk
  have hio := below_box w7 (.cells (([0, 1, 3, 4] : List Int).map (Value.int .i64)).toArray 3)
  have hb8 := hblk.below hio hblk.lt
  have hn8 : IntBlk (w7.alloc (.cells (([0, 1, 3, 4] : List Int).map (Value.int .i64)).toArray 3)) w7.heap.size [0, 1, 3, 4] := IntBlk.new w7 _
  have HSI := Lib.hid (lawInts_yes (w7.alloc (.cells (([0, 1, 3, 4] : List Int).map (Value.int .i64)).toArray 3)) (some ⟨w6.heap.size, 0, none⟩) 4 4 (some ⟨w7.heap.size, 0, none⟩) 4 [0, 1, 3, 4] rfl (by decide) hb8.at_ hn8.at_)
  have HB7 := Lib.hid ((HB6.out.trans (hB7.mono HB6.out.size)).trans (hio.mono (Nat.le_trans HB6.out.size hB7.size)))
  clear hblk hb8 hn8 hio hB7 HUN HB6
  go_wp2_with fail
  go_at_call 25
  refine HSI.out.mono ?_
  rintro e w9 ⟨rfl, hB9⟩
  have HB9 := Lib.hid (HB7.out.trans (hB9.mono HB7.out.size))
  clear hB9 HB7 HSI
  go_wp2_with fail
  go_ret
  exact ⟨rfl, HB9.out⟩
end Go.Proofs.YtaglclmfjopnlaaDoor
