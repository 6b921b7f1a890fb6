/- The lender of bytes: Lend and Back. -/
import Derived.Test.YtkfcfoidaalnlaaCore
import Derived.StillTailTactics
import Derived.Deep.QuietTactic
import Derived.BigQuiet
import Derived.Laws.CopyOwn
import Derived.Laws.NewBlocks
import Derived.Deep.RegionHeld3
import Derived.Deep.DeepCutAuto
namespace Go.Proofs.Ytkfcfoidaalnlaa.Ln
open Go.ChangeShapes Go.WideShapes Go.ChangeAt Go.RowKit
open Bits
set_option linter.unusedVariables false

/-- the mark at a place behind what is lent -/
def beh (i : Nat) : Int := (151 + 7 * (i : Int)) % 256
theorem behind_any (i : Nat) (hi : i ≤ 1099511627776) (w : World) : Calls Try.prog 21 #[.int .i64 (i : Int)] w fun e w' => e = .returned (.int .u8 (beh i)) ∧ w = w' := by
  go_enter Try.func21, Try.ntmps21
  go_wp2_with fail
  go_ret
  exact ⟨rfl, rfl⟩

/-- the first j marks -/
def marks (j : Nat) : List Int := (List.range j).map beh
theorem marks_length (j : Nat) : (marks j).length = j := by simp [marks]
theorem marks_step (L R : List Int) (n j : Nat) (hn : L.length = n) (h : n + j < R.length) : (L ++ (marks j ++ R.drop (n + j))).set (n + j) (beh j) = L ++ (marks (j + 1) ++ R.drop (n + j + 1)) := by
  rw [List.set_append_right _ _ (by omega), List.set_append_right _ _ (by rw [marks_length]; omega), hn, marks_length, show n + j - n - j = 0 by omega, List.drop_eq_getElem_cons h, List.set_cons_zero]
  unfold marks
  rw [List.range_succ, List.map_append]
  simp

/-- the lender at block g holds room r, which is R -/
def Room (w : World) (g : Nat) (rb : Option Nat) (R : List Int) : Prop :=
  (rb = none ∧ R = [] ∧ Blk w g 28 #[.slice none 0 0]) ∨
  ∃ r, rb = some r ∧ r ≠ g ∧ ByteBlk w r R ∧ Blk w g 28 #[.slice (some ⟨r, 0, none⟩) R.length R.length]
/-- but for blocks g and r, and what is new, memory is as it was -/
def Keep2 (g : Nat) (r : Option Nat) (w w' : World) : Prop := ∀ b, b < w.heap.size → b ≠ g → some b ≠ r → w'.heap[b]? = w.heap[b]?

theorem _root_.Go.Proofs.Ytkfcfoidaalnlaa.BytesAt.vals {w : World} {A : Option Addr} {L : List Int} (h : BytesAt w A L) : 0 < (L.map (Value.int .u8)).length → ∃ ad, A = some ad ∧ ∀ j v, (L.map (Value.int .u8))[j]? = some v → w.cell? (ad.add j) = some v := fun hp => by
  obtain ⟨b, off, rfl, hlt, hc⟩ := h (by simpa using hp)
  refine ⟨_, rfl, fun j v hv => ?_⟩
  rw [List.getElem?_map] at hv
  have hj : j < L.length := by
    rcases Nat.lt_or_ge j L.length with h1 | h1
    · exact h1
    · rw [List.getElem?_eq_none h1] at hv; cases hv
  have := hc j hj
  rw [List.getElem?_eq_getElem hj] at this hv
  simp only [Option.map_some, Option.some.injEq, Option.getD_some] at hv this
  rw [Addr.add_lit, this, hv]

open Go.RowKit in
/-- copy into a row that is known whole: that row alone turns -/
theorem wpList_copy_room {P : Program} {w : World} {ops : Array Oper} {rest : List Oper} {o : Oper} {a : Act} {Q : Exit → Act → World → Prop} (hgd : o.guard = none) (d s : Operand) (dT sT : TypeId)
    (ho : o.op = .call { callee := .builtin .copy, args := #[d, s], argTypes := #[dT, sT] }) (elem : TypeId) (hu : P.underlying dT = some (.slice elem)) (hsz : (P.info? elem).map (·.size) = some 1)
    (dp sp : Option Addr) (dLen dCap sLen sCap : Nat) (hd : a.eval d = .slice dp dLen dCap) (hs : a.eval s = .slice sp sLen sCap)
    (g off : Nat) (cur : List Value) (t : TypeId) (hg : w.heap[g]? = some (.cells cur.toArray t (0, 0))) (cs : List Value) (hn : cs.length = Nat.min sLen dLen)
    (hpos : 0 < cs.length → dp = some ⟨g, off, none⟩ ∧ ∃ ad, sp = some ad ∧ ∀ j v, cs[j]? = some v → w.cell? (ad.add j) = some v)
    (hfit : off + cs.length ≤ cur.length) (h1 : ∀ v ∈ cs, v.oneCell' = true)
    (h : ∀ w', Hid (w'.heap[g]? = some (.cells (splice cur off cs).toArray t (0, 0))) → Hid (∀ b, b ≠ g → w'.heap[b]? = w.heap[b]?) → Below 0 w w' → w'.heap.size = w.heap.size → wpList P ops Q rest (a.put o.dst (goInt cs.length)) w') :
    wpList P ops Q (o :: rest) a w := by
  by_cases h0 : cs.length = 0
  · obtain rfl : cs = [] := List.eq_nil_of_length_eq_zero h0
    refine wpList_copy_nothing hgd d s dT sT ho elem hu hsz dp sp dLen dCap sLen sCap hd hs (by simpa using hn.symm) ?_
    exact h w (show _ = _ by simpa [splice] using hg) (fun _ _ => rfl) (Below.refl _ _) rfl
  · obtain ⟨rfl, ad, rfl, hsrc⟩ := hpos (by omega)
    refine wpList_copy_own hgd d s dT sT ho elem hu hsz g off dLen dCap ad sLen sCap hd hs cur.toArray t hg cs hn hsrc (by simpa using hfit) h1 ?_
    exact h _ (show _ = _ by simpa [splice] using setRow_heap w g _ _ t _ hg) (fun b hb => setRow_other w g b _ hb) (below_setRow (Below.refl _ _) (Nat.zero_le _) _) (by simp [World.setRow])

/-- the lender at block g has lent L out of block r: the marks stand behind it -/
def Lent (w : World) (g r : Nat) (L D : List Int) : Prop := r ≠ g ∧ ByteBlk w r (L ++ (marks (L.length + 70) ++ D)) ∧ Blk w g 28 #[.slice (some ⟨r, 0, none⟩) (L.length + (L.length + 70) + D.length) (L.length + (L.length + 70) + D.length)]

/-- what Lend leaves -/
def LendPost (base g : Nat) (rb : Option Nat) (L : List Int) (w : World) (e : Ending) (w' : World) : Prop :=
  ∃ r D, e = .returned (.slice (some ⟨r, 0, none⟩) L.length (L.length + (L.length + 70) + D.length)) ∧ Lent w' g r L D ∧ (some r = rb ∨ r = w.heap.size) ∧ L.length + (L.length + 70) + D.length ≤ 1099511627776 ∧ Keep2 g (some r) w w' ∧ Below base w w'

set_option maxRecDepth 100000 in
set_option maxHeartbeats 2000000 in
theorem lend_any (w : World) (g : Nat) (rb : Option Nat) (R : List Int) (hroom : Room w g rb R) (A : Option Addr) (n c : Nat) (L : List Int) (hL : L.length = n) (hn : n ≤ 1048576) (hR : R.length ≤ 1099511627776)
    (hat : BytesAt w A L) (hA : 0 < n → ∀ b off, A = some ⟨b, off, none⟩ → b ≠ g) (base : Nat) (hbase : base ≤ g) (hbase' : ∀ r, rb = some r → base ≤ r) :
    Calls Try.prog 6 #[.pointer (some ⟨g, 0, none⟩), .slice A n c] w (LendPost base g rb L w) := by
  have hgl : g < w.heap.size := by
    rcases hroom with ⟨_, _, h⟩ | ⟨r, _, _, _, h⟩ <;> exact h.lt
  -- the room that is made, if it is too small
  have hmk : (Instr.makeSlice 22 (.int .i64 (4 * (n : Int) + 200)) (.int .i64 (4 * (n : Int) + 200))).run Try.prog w = .ok (.slice (some ⟨w.heap.size, 0, none⟩) (4 * n + 200) (4 * n + 200)) (w.alloc (.cells ((zerosL (4 * n + 200)).map (Value.int .u8)).toArray 5)) := by
    have := make_bytes (4 * n + 200) (by omega) w
    simpa using this
  have HMK := Lib.hid hmk
  have HL := Lib.hid hL
  have HRoom := Lib.hid hroom
  clear hmk hroom hL
  have hsb : (Blk w g 28 #[.slice none 0 0] ∧ rb = none) ∨ ∃ r, rb = some r ∧ r ≠ g ∧ ByteBlk w r R ∧ Blk w g 28 #[.slice (some ⟨r, 0, none⟩) R.length R.length] := by
    rcases HRoom.out with ⟨rfl, rfl, hg⟩ | ⟨r, rfl, hrg, hr, hg⟩
    · exact .inl ⟨hg, rfl⟩
    · exact .inr ⟨r, rfl, hrg, hr, hg⟩
  clear HRoom
  have hnew : ∀ (v0 : Value), Blk w g 28 #[v0] → (0 < n → ∀ b off, A = some ⟨b, off, none⟩ → b ≠ g) → ∃ w1 r1 m, w1 = (w.setCell ⟨g, 0, none⟩ (.slice (some ⟨w.heap.size, 0, none⟩) (4 * n + 200) (4 * n + 200))).alloc (.cells ((zerosL (4 * n + 200)).map (Value.int .u8)).toArray 5) ∧ r1 = w.heap.size ∧ m = 4 * n + 200 ∧
      Blk w1 g 28 #[.slice (some ⟨r1, 0, none⟩) m m] ∧ ByteBlk w1 r1 (zerosL m) ∧ Keep2 g (some r1) w w1 ∧ Below base w w1 ∧ BytesAt w1 A L := by
    intro v0 hg hAg
    obtain ⟨w0, hw0⟩ : ∃ w0, w0 = w.setCell ⟨g, 0, none⟩ (.slice (some ⟨w.heap.size, 0, none⟩) (4 * n + 200) (4 * n + 200)) := ⟨_, rfl⟩
    have hs0 : w0.heap.size = w.heap.size := by rw [hw0]; simp [World.setCell]
    have hk0 : ∀ b, b ≠ g → w0.heap[b]? = w.heap[b]? := fun b hb => by rw [hw0, Below.heap_setCell _ ⟨g, 0, none⟩ _ b (by simpa using hb)]
    have hg0 := hg.set_ 0 (.slice (some ⟨w.heap.size, 0, none⟩) (4 * n + 200) (4 * n + 200))
    have hB0 : Below base w w0 := by rw [hw0]; exact (Below.refl _ _).setCell hbase _
    rw [← hw0] at hg0 ⊢
    refine ⟨_, _, _, rfl, rfl, rfl, hg0.alloc _, ?_, fun b hb hbg _ => ?_, hB0.alloc (by omega) _, fun hp => ?_⟩
    · rw [← hs0]; exact ByteBlk.new w0 (zerosL (4 * n + 200))
    · rw [Below.heap_alloc _ _ _ (by omega), hk0 b hbg]
    · obtain ⟨b, off, rfl, hlt, hc⟩ := hat hp
      refine ⟨b, off, rfl, by simp; omega, fun i hi => ?_⟩
      rw [World.cell?_of_block (w := w), hc i hi]
      show _ = w.heap[b]?
      rw [Below.heap_alloc _ _ _ (by show b < _; omega), hk0 b (hAg (by rw [← HL.out]; exact hp) b off rfl)]
  rcases hsb with ⟨hg, rfl⟩ | ⟨r, rfl, hrg, hr, hg⟩
  · have hc := hg.cell 0
    have hf := hg.frozen 0
    simp only [List.getElem?_toArray, List.getElem?_cons_zero] at hc
    have hmk := HMK.out
    have HN := Lib.hid (hnew _ hg hA)
    have HG := Lib.hid hg
    have hs1 : (0 : Int) < 2 * (n : Int) + 70 := by omega
    clear hg hnew
    go_enter Try.func6, Try.ntmps6
    go_upto_region 4 with (fail)
    obtain ⟨w1, r1, m, hw1, er1, em, hg1, hr1, hK1, hB1, hat1⟩ := HN.out
    rw [← hw1]
    clear hw1 HN HMK hmk hc hf hs1 HG
    have HOr := Lib.hid (show some r1 = none ∨ r1 = w.heap.size from .inr er1)
    have hlr : (zerosL m).length = m := zerosL_length _
    have hm : 2 * n + 70 ≤ m := by omega
    have hm' : m ≤ 1099511627776 := by omega
    have hrg1 : r1 ≠ g := by omega
    have hbr : base ≤ r1 := by omega
    clear er1 em
    generalize zerosL m = R1 at *
    have hc := hg1.cell 0
    simp only [List.getElem?_toArray, List.getElem?_cons_zero] at hc
    have HLR := Lib.hid hlr
    have hmin : (L.map (Value.int .u8)).length = Nat.min n m := by rw [List.length_map, HL.out]; exact (Nat.min_eq_left (by omega)).symm
    have hfit : 0 + (L.map (Value.int .u8)).length ≤ (R1.map (Value.int .u8)).length := by simp only [List.length_map]; rw [HL.out, HLR.out]; omega
    have hone : ∀ v ∈ L.map (Value.int .u8), v.oneCell' = true := fun v hv => by simp only [List.mem_map] at hv; obtain ⟨z, _, rfl⟩ := hv; rfl
    clear hlr
    go_wp2_with ((refine wpList_copy_room rfl (.tmp 28) (.tmp 29) 22 22 rfl 5 Try.underlying22 rfl _ _ _ _ _ _ rfl rfl r1 0 (R1.map (Value.int .u8)) 5 hr1 (L.map (Value.int .u8)) hmin (fun hp => ⟨rfl, hat1.vals hp⟩) hfit hone ?_); intro w2 HR2 HO2 hB2 hs2)


    have hr2 : ByteBlk w2 r1 (L ++ (marks 0 ++ R1.drop (n + 0))) := by
      have e : splice (List.map (Value.int IntKind.u8) R1) 0 (List.map (Value.int IntKind.u8) L) = (L ++ (marks 0 ++ R1.drop (n + 0))).map (Value.int .u8) := by
        simp [splice, marks, HL.out]
      have := HR2.out
      rw [e] at this
      exact this
    clear hc HR2
    have hg2 : Blk w2 g 28 #[.slice (some ⟨r1, 0, none⟩) m m] := (HO2.out g (Ne.symm hrg1)).trans hg1
    have hK2 : Keep2 g (some r1) w w2 := fun b hb hbg hbr => (HO2.out b (fun e => hbr (by rw [e]))).trans (hK1 b hb hbg hbr)
    have hB3 : Below base w w2 := hB1.trans ⟨hB2.os, hB2.tape, hB2.output, hB2.size, fun k hk => HO2.out k (by omega)⟩
    clear hB2 hs2 HO2 hg1 hr1 hK1 hB1 hat1 hmin hfit hone hat
    go_loopw [6] (fun i wr => ∃ j : Nat, j ≤ n + 70 ∧ i = .int .i64 j ∧ ByteBlk wr r1 (L ++ (marks j ++ R1.drop (n + j))) ∧ Blk wr g 28 #[.slice (some ⟨r1, 0, none⟩) m m] ∧ Keep2 g (some r1) w wr ∧ Below base w wr) (fun i _ => (n + 70 - intOf i).toNat)
    case atStart => exact ⟨0, by omega, rfl, hr2, hg2, hK2, hB3⟩
    case round =>
      clear hr2 hg2 hK2 hB3
      obtain ⟨j, hj, rfl, hb, hg, hK, hB⟩ := hrel
      have hc := hg.cell 0
      simp only [List.getElem?_toArray, List.getElem?_cons_zero] at hc
      have hlen : (L ++ (marks j ++ R1.drop (n + j))).length = m := by
        have := HLR.out; have := HL.out
        simp [marks_length]; omega
      by_cases hlt : j < n + 70
      · have h1 : (j : Int) < n + 70 := by omega
        have hx := hb.cell (n + j) (by omega)
        have hf := hb.frozen (n + j)
        have HS := Lib.hid (hb.set_ (n + j) (beh j))
        generalize (L ++ (marks j ++ R1.drop (n + j)))[n + j]?.getD 0 = x at hx
        have hbd : (n : Int) + j < m := by omega
        have HLEN := Lib.hid hlen
        clear hlen
        go_wp2_with fail
        have e1 : IntKind.i64.wrap ((n : Int) + (j : Int)) = (n : Int) + (j : Int) := IntWalk.i64_in _ (by omega)
        have e2 : (0 : Int) ≤ (n : Int) + (j : Int) := by omega
        have e3 : ((n : Int) + (j : Int)).toNat = n + j := by omega
        refine wp_region_still_tail 10 (by kernel_rfl) (by kernel_rfl) ?_
        simp only [List.take_succ_cons, List.take_zero, List.drop_succ_cons, List.drop_zero]
        repeat still_step
        still_call ((behind_any j (by omega) _).mono fun _ _ ⟨h1, h2⟩ => ⟨h1, h2.symm⟩)
        repeat still_step
        refine wpStill_nil ?_
        change wpList _ _ _ _ _ wr.drew
        clear e1 e2 e3
        have hc' : wr.drew.cell? ⟨g, 0, none⟩ = some (.slice (some ⟨r1, 0, none⟩) m m) := hc
        have hx' : wr.drew.cell? ⟨r1, n + j, none⟩ = some (.int .u8 x) := hx
        have hf' : wr.drew.frozen? ⟨r1, n + j, none⟩ = false := hf
        clear hc hx hf
        go_wp2_with fail
        go_roundw
        case rel =>
          refine ⟨j + 1, by omega, by go_num, ?_, hg.far (p := ⟨r1, n + j, none⟩) (Ne.symm hrg1) _, fun b hb hbg hbr' => ?_, hB.drew.setCell hbr _⟩
          · have h3 := HS.out
            have h4 := HLR.out
            rw [marks_step L R1 n j HL.out (by omega)] at h3
            exact h3
          · exact (Below.heap_setCell wr ⟨r1, n + j, none⟩ _ b (fun e => hbr' (by rw [e]))).trans (hK b hb hbg hbr')
        case measure => simp [intOf]; omega
      · have h1 : decide ((j : Int) < n + 70) = false := by simp; omega
        have hbd : (n : Int) ≤ m := by omega
        have hbd' : n ≤ m := by omega
        obtain rfl : j = n + 70 := by omega
        have hb' : ByteBlk wr r1 (L ++ (marks (L.length + 70) ++ R1.drop (n + (n + 70)))) := by rw [HL.out]; exact hb
        have hcap : L.length + (L.length + 70) + (R1.drop (n + (n + 70))).length = m := by
          have h3 := HLR.out; have h4 := HL.out
          simp only [List.length_drop]; omega
        have hpost : LendPost base g none L w (.returned (.slice (some ⟨r1, 0, none⟩) n m)) wr :=
          ⟨r1, R1.drop (n + (n + 70)), by rw [hcap, HL.out], ⟨hrg1, hb', by rw [hcap]; exact hg⟩, HOr.out, by rw [hcap]; exact hm', hK, hB⟩
        have HP := Lib.hid hpost
        clear hb' hcap hpost hb hlen
        go_wp2_with fail
        go_ret
        exact HP.out
  · have hc := hg.cell 0
    have hf := hg.frozen 0
    simp only [List.getElem?_toArray, List.getElem?_cons_zero] at hc
    by_cases hsz : R.length < 2 * n + 70
    · have hs1 : (R.length : Int) < 2 * (n : Int) + 70 := by omega
      have hmk := HMK.out
      have HN := Lib.hid (hnew _ hg hA)
      have HG := Lib.hid hg
      clear hg hnew hr
      go_enter Try.func6, Try.ntmps6
      go_upto_region 4 with (fail)
      obtain ⟨w1, r1, m, hw1, er1, em, hg1, hr1, hK1, hB1, hat1⟩ := HN.out
      rw [← hw1]
      clear hw1 HN HMK hmk hc hf hs1 HG
      have HOr := Lib.hid (show some r1 = some r ∨ r1 = w.heap.size from .inr er1)
      have hlr : (zerosL m).length = m := zerosL_length _
      have hm : 2 * n + 70 ≤ m := by omega
      have hm' : m ≤ 1099511627776 := by omega
      have hrg1 : r1 ≠ g := by omega
      have hbr : base ≤ r1 := by omega
      clear er1 em
      generalize zerosL m = R1 at *
      have hc := hg1.cell 0
      simp only [List.getElem?_toArray, List.getElem?_cons_zero] at hc
      have HLR := Lib.hid hlr
      have hmin : (L.map (Value.int .u8)).length = Nat.min n m := by rw [List.length_map, HL.out]; exact (Nat.min_eq_left (by omega)).symm
      have hfit : 0 + (L.map (Value.int .u8)).length ≤ (R1.map (Value.int .u8)).length := by simp only [List.length_map]; rw [HL.out, HLR.out]; omega
      have hone : ∀ v ∈ L.map (Value.int .u8), v.oneCell' = true := fun v hv => by simp only [List.mem_map] at hv; obtain ⟨z, _, rfl⟩ := hv; rfl
      clear hlr
      go_wp2_with ((refine wpList_copy_room rfl (.tmp 28) (.tmp 29) 22 22 rfl 5 Try.underlying22 rfl _ _ _ _ _ _ rfl rfl r1 0 (R1.map (Value.int .u8)) 5 hr1 (L.map (Value.int .u8)) hmin (fun hp => ⟨rfl, hat1.vals hp⟩) hfit hone ?_); intro w2 HR2 HO2 hB2 hs2)


      have hr2 : ByteBlk w2 r1 (L ++ (marks 0 ++ R1.drop (n + 0))) := by
        have e : splice (List.map (Value.int IntKind.u8) R1) 0 (List.map (Value.int IntKind.u8) L) = (L ++ (marks 0 ++ R1.drop (n + 0))).map (Value.int .u8) := by
          simp [splice, marks, HL.out]
        have := HR2.out
        rw [e] at this
        exact this
      clear hc HR2
      have hg2 : Blk w2 g 28 #[.slice (some ⟨r1, 0, none⟩) m m] := (HO2.out g (Ne.symm hrg1)).trans hg1
      have hK2 : Keep2 g (some r1) w w2 := fun b hb hbg hbr => (HO2.out b (fun e => hbr (by rw [e]))).trans (hK1 b hb hbg hbr)
      have hB3 : Below base w w2 := hB1.trans ⟨hB2.os, hB2.tape, hB2.output, hB2.size, fun k hk => HO2.out k (by omega)⟩
      clear hB2 hs2 HO2 hg1 hr1 hK1 hB1 hat1 hmin hfit hone hat
      go_loopw [6] (fun i wr => ∃ j : Nat, j ≤ n + 70 ∧ i = .int .i64 j ∧ ByteBlk wr r1 (L ++ (marks j ++ R1.drop (n + j))) ∧ Blk wr g 28 #[.slice (some ⟨r1, 0, none⟩) m m] ∧ Keep2 g (some r1) w wr ∧ Below base w wr) (fun i _ => (n + 70 - intOf i).toNat)
      case atStart => exact ⟨0, by omega, rfl, hr2, hg2, hK2, hB3⟩
      case round =>
        clear hr2 hg2 hK2 hB3
        obtain ⟨j, hj, rfl, hb, hg, hK, hB⟩ := hrel
        have hc := hg.cell 0
        simp only [List.getElem?_toArray, List.getElem?_cons_zero] at hc
        have hlen : (L ++ (marks j ++ R1.drop (n + j))).length = m := by
          have := HLR.out; have := HL.out
          simp [marks_length]; omega
        by_cases hlt : j < n + 70
        · have h1 : (j : Int) < n + 70 := by omega
          have hx := hb.cell (n + j) (by omega)
          have hf := hb.frozen (n + j)
          have HS := Lib.hid (hb.set_ (n + j) (beh j))
          generalize (L ++ (marks j ++ R1.drop (n + j)))[n + j]?.getD 0 = x at hx
          have hbd : (n : Int) + j < m := by omega
          have HLEN := Lib.hid hlen
          clear hlen
          go_wp2_with fail
          have e1 : IntKind.i64.wrap ((n : Int) + (j : Int)) = (n : Int) + (j : Int) := IntWalk.i64_in _ (by omega)
          have e2 : (0 : Int) ≤ (n : Int) + (j : Int) := by omega
          have e3 : ((n : Int) + (j : Int)).toNat = n + j := by omega
          refine wp_region_still_tail 10 (by kernel_rfl) (by kernel_rfl) ?_
          simp only [List.take_succ_cons, List.take_zero, List.drop_succ_cons, List.drop_zero]
          repeat still_step
          still_call ((behind_any j (by omega) _).mono fun _ _ ⟨h1, h2⟩ => ⟨h1, h2.symm⟩)
          repeat still_step
          refine wpStill_nil ?_
          change wpList _ _ _ _ _ wr.drew
          clear e1 e2 e3
          have hc' : wr.drew.cell? ⟨g, 0, none⟩ = some (.slice (some ⟨r1, 0, none⟩) m m) := hc
          have hx' : wr.drew.cell? ⟨r1, n + j, none⟩ = some (.int .u8 x) := hx
          have hf' : wr.drew.frozen? ⟨r1, n + j, none⟩ = false := hf
          clear hc hx hf
          go_wp2_with fail
          go_roundw
          case rel =>
            refine ⟨j + 1, by omega, by go_num, ?_, hg.far (p := ⟨r1, n + j, none⟩) (Ne.symm hrg1) _, fun b hb hbg hbr' => ?_, hB.drew.setCell hbr _⟩
            · have h3 := HS.out
              have h4 := HLR.out
              rw [marks_step L R1 n j HL.out (by omega)] at h3
              exact h3
            · exact (Below.heap_setCell wr ⟨r1, n + j, none⟩ _ b (fun e => hbr' (by rw [e]))).trans (hK b hb hbg hbr')
          case measure => simp [intOf]; omega
        · have h1 : decide ((j : Int) < n + 70) = false := by simp; omega
          have hbd : (n : Int) ≤ m := by omega
          have hbd' : n ≤ m := by omega
          obtain rfl : j = n + 70 := by omega
          have hb' : ByteBlk wr r1 (L ++ (marks (L.length + 70) ++ R1.drop (n + (n + 70)))) := by rw [HL.out]; exact hb
          have hcap : L.length + (L.length + 70) + (R1.drop (n + (n + 70))).length = m := by
            have h3 := HLR.out; have h4 := HL.out
            simp only [List.length_drop]; omega
          have hpost : LendPost base g (some r) L w (.returned (.slice (some ⟨r1, 0, none⟩) n m)) wr :=
            ⟨r1, R1.drop (n + (n + 70)), by rw [hcap, HL.out], ⟨hrg1, hb', by rw [hcap]; exact hg⟩, HOr.out, by rw [hcap]; exact hm', hK, hB⟩
          have HP := Lib.hid hpost
          clear hb' hcap hpost hb hlen
          go_wp2_with fail
          go_ret
          exact HP.out
    · obtain ⟨m, hlr⟩ : ∃ m, R.length = m := ⟨_, rfl⟩
      rw [hlr] at hg hc hsz hR
      have hs1 : decide ((m : Int) < 2 * (n : Int) + 70) = false := by simp; omega
      have hm : 2 * n + 70 ≤ m := by omega
      have hbr : base ≤ r := hbase' r rfl
      clear hnew HMK
      have HLR0 := Lib.hid hlr
      clear hlr
      go_enter Try.func6, Try.ntmps6
      go_upto_region 4 with (fail)
      have hg1 := hg
      have hr1 := hr
      have hK1 : Keep2 g (some r) w w := fun b _ _ _ => rfl
      have hB1 : Below base w w := Below.refl _ _
      have hat1 := hat
      have hlr := HLR0.out
      have hrg1 := hrg
      have hm' : m ≤ 1099511627776 := hR
      clear hc hf hs1 hg hr HLR0 hrg
      have hc := hg1.cell 0
      simp only [List.getElem?_toArray, List.getElem?_cons_zero] at hc
      have HLR := Lib.hid hlr
      have hmin : (L.map (Value.int .u8)).length = Nat.min n m := by rw [List.length_map, HL.out]; exact (Nat.min_eq_left (by omega)).symm
      have hfit : 0 + (L.map (Value.int .u8)).length ≤ (R.map (Value.int .u8)).length := by simp only [List.length_map]; rw [HL.out, HLR.out]; omega
      have hone : ∀ v ∈ L.map (Value.int .u8), v.oneCell' = true := fun v hv => by simp only [List.mem_map] at hv; obtain ⟨z, _, rfl⟩ := hv; rfl
      clear hlr
      go_wp2_with ((refine wpList_copy_room rfl (.tmp 28) (.tmp 29) 22 22 rfl 5 Try.underlying22 rfl _ _ _ _ _ _ rfl rfl r 0 (R.map (Value.int .u8)) 5 hr1 (L.map (Value.int .u8)) hmin (fun hp => ⟨rfl, hat1.vals hp⟩) hfit hone ?_); intro w2 HR2 HO2 hB2 hs2)


      have hr2 : ByteBlk w2 r (L ++ (marks 0 ++ R.drop (n + 0))) := by
        have e : splice (List.map (Value.int IntKind.u8) R) 0 (List.map (Value.int IntKind.u8) L) = (L ++ (marks 0 ++ R.drop (n + 0))).map (Value.int .u8) := by
          simp [splice, marks, HL.out]
        have := HR2.out
        rw [e] at this
        exact this
      clear hc HR2
      have hg2 : Blk w2 g 28 #[.slice (some ⟨r, 0, none⟩) m m] := (HO2.out g (Ne.symm hrg1)).trans hg1
      have hK2 : Keep2 g (some r) w w2 := fun b hb hbg hbr => (HO2.out b (fun e => hbr (by rw [e]))).trans (hK1 b hb hbg hbr)
      have hB3 : Below base w w2 := hB1.trans ⟨hB2.os, hB2.tape, hB2.output, hB2.size, fun k hk => HO2.out k (by omega)⟩
      clear hB2 hs2 HO2 hg1 hr1 hK1 hB1 hat1 hmin hfit hone hat
      go_loopw [6] (fun i wr => ∃ j : Nat, j ≤ n + 70 ∧ i = .int .i64 j ∧ ByteBlk wr r (L ++ (marks j ++ R.drop (n + j))) ∧ Blk wr g 28 #[.slice (some ⟨r, 0, none⟩) m m] ∧ Keep2 g (some r) w wr ∧ Below base w wr) (fun i _ => (n + 70 - intOf i).toNat)
      case atStart => exact ⟨0, by omega, rfl, hr2, hg2, hK2, hB3⟩
      case round =>
        clear hr2 hg2 hK2 hB3
        obtain ⟨j, hj, rfl, hb, hg, hK, hB⟩ := hrel
        have hc := hg.cell 0
        simp only [List.getElem?_toArray, List.getElem?_cons_zero] at hc
        have hlen : (L ++ (marks j ++ R.drop (n + j))).length = m := by
          have := HLR.out; have := HL.out
          simp [marks_length]; omega
        by_cases hlt : j < n + 70
        · have h1 : (j : Int) < n + 70 := by omega
          have hx := hb.cell (n + j) (by omega)
          have hf := hb.frozen (n + j)
          have HS := Lib.hid (hb.set_ (n + j) (beh j))
          generalize (L ++ (marks j ++ R.drop (n + j)))[n + j]?.getD 0 = x at hx
          have hbd : (n : Int) + j < m := by omega
          have HLEN := Lib.hid hlen
          clear hlen
          go_wp2_with fail
          have e1 : IntKind.i64.wrap ((n : Int) + (j : Int)) = (n : Int) + (j : Int) := IntWalk.i64_in _ (by omega)
          have e2 : (0 : Int) ≤ (n : Int) + (j : Int) := by omega
          have e3 : ((n : Int) + (j : Int)).toNat = n + j := by omega
          refine wp_region_still_tail 10 (by kernel_rfl) (by kernel_rfl) ?_
          simp only [List.take_succ_cons, List.take_zero, List.drop_succ_cons, List.drop_zero]
          repeat still_step
          still_call ((behind_any j (by omega) _).mono fun _ _ ⟨h1, h2⟩ => ⟨h1, h2.symm⟩)
          repeat still_step
          refine wpStill_nil ?_
          change wpList _ _ _ _ _ wr.drew
          clear e1 e2 e3
          have hc' : wr.drew.cell? ⟨g, 0, none⟩ = some (.slice (some ⟨r, 0, none⟩) m m) := hc
          have hx' : wr.drew.cell? ⟨r, n + j, none⟩ = some (.int .u8 x) := hx
          have hf' : wr.drew.frozen? ⟨r, n + j, none⟩ = false := hf
          clear hc hx hf
          go_wp2_with fail
          go_roundw
          case rel =>
            refine ⟨j + 1, by omega, by go_num, ?_, hg.far (p := ⟨r, n + j, none⟩) (Ne.symm hrg1) _, fun b hb hbg hbr' => ?_, hB.drew.setCell hbr _⟩
            · have h3 := HS.out
              have h4 := HLR.out
              rw [marks_step L R n j HL.out (by omega)] at h3
              exact h3
            · exact (Below.heap_setCell wr ⟨r, n + j, none⟩ _ b (fun e => hbr' (by rw [e]))).trans (hK b hb hbg hbr')
          case measure => simp [intOf]; omega
        · have h1 : decide ((j : Int) < n + 70) = false := by simp; omega
          have hbd : (n : Int) ≤ m := by omega
          have hbd' : n ≤ m := by omega
          obtain rfl : j = n + 70 := by omega
          have hb' : ByteBlk wr r (L ++ (marks (L.length + 70) ++ R.drop (n + (n + 70)))) := by rw [HL.out]; exact hb
          have hcap : L.length + (L.length + 70) + (R.drop (n + (n + 70))).length = m := by
            have h3 := HLR.out; have h4 := HL.out
            simp only [List.length_drop]; omega
          have hpost : LendPost base g (some r) L w (.returned (.slice (some ⟨r, 0, none⟩) n m)) wr :=
            ⟨r, R.drop (n + (n + 70)), by rw [hcap, HL.out], ⟨hrg1, hb', by rw [hcap]; exact hg⟩, (.inl rfl), by rw [hcap]; exact hm', hK, hB⟩
          have HP := Lib.hid hpost
          clear hb' hcap hpost hb hlen
          go_wp2_with fail
          go_ret
          exact HP.out
end Go.Proofs.Ytkfcfoidaalnlaa.Ln
