/- Contracts of the document's rows of bits: row, number, signed, width. -/
import Derived.Test.YtjhgjplhhhgfcaaGreatRows
import Derived.Test.YtjhgjplhhhgfcaaGreatBits
import Derived.WalkKit
import Derived.ProofKit
import Derived.OpenShut
import Derived.Lib.Hide
namespace Go.Proofs.YtjhgjplhhhgfcaaGreat
open Go.ChangeShapes Go.WideShapes Go.ChangeAt Go.RowKit
open Bits

/-- the slice's cells, in world w, are these ints -/
def IntsAt (w : World) (A : Option Addr) (L : List Int) : Prop :=
  0 < L.length → ∃ b off, A = some ⟨b, off, none⟩ ∧ b < w.heap.size ∧ ∀ i, i < L.length → w.cell? ⟨b, off + i, none⟩ = some (.int .i64 (L[i]?.getD 0))

theorem w64_step (b x : Int) : wrap64 (wrap64 (2 * wrap64 x) + b) = wrap64 (b + 2 * x) := by
  unfold wrap64; omega

set_option maxHeartbeats 1000000 in
theorem number_any (A : Option Addr) (c : Nat) (L : List Int) (w : World) (hlen : L.length ≤ 1099511627776) (h : IntsAt w A L) :
    Calls Tryz.prog 60 #[.slice A L.length c] w fun e w' => e = .returned (.int .i64 (wrap64 (valL L))) ∧ w = w' := by
  go_enter Tryz.func60, Tryz.ntmps60
  go_wp2
  go_loop [3, 4] (fun v i => ∃ k : Nat, k ≤ L.length ∧ i = .int .i64 ((k : Int) - 1) ∧ v = .int .i64 (wrap64 (valL (L.drop k)))) (fun _ i => (intOf i + 1).toNat)
  case atStart => exact ⟨L.length, by omega, rfl, by simp [valL, wrap64]⟩
  case round =>
    obtain ⟨k, hk, rfl, rfl⟩ := hrel
    rcases k with _ | k
    · rw [show (((0 : Nat) : Int) - 1) = -1 by omega]
      go_wp2
      go_ret
      exact ⟨rfl, rfl⟩
    · rw [show (((k + 1 : Nat) : Int) - 1) = (k : Int) by omega]
      obtain ⟨b, off, rfl, hb, hc⟩ := h (by omega)
      have hx := hc k (by omega)
      have hd : L.drop k = L[k]?.getD 0 :: L.drop (k + 1) := by
        rw [List.drop_eq_getElem_cons (by omega)]; rw [List.getElem?_eq_getElem (by omega)]; rfl
      have HD := Lib.hid hd
      clear hc hd h
      go_wp2
      go_round
      case rel => exact ⟨k, by omega, rfl, by rw [HD.out, valL, ← w64_step]⟩
      case measure => simp [intOf]

/-- block g is just these ints, none of them frozen -/
def IntBlk (w : World) (g : Nat) (L : List Int) : Prop := w.heap[g]? = some (.cells (L.map (Value.int .i64)).toArray 3 (0, 0))

theorem IntBlk.lt {w : World} {g : Nat} {L : List Int} (h : IntBlk w g L) : g < w.heap.size := by
  rcases Nat.lt_or_ge g w.heap.size with hlt | hge
  · exact hlt
  · unfold IntBlk at h; rw [Array.getElem?_eq_none hge] at h; cases h
theorem IntBlk.cell {w : World} {g : Nat} {L : List Int} (h : IntBlk w g L) (i : Nat) (hi : i < L.length) : w.cell? ⟨g, i, none⟩ = some (.int .i64 (L[i]?.getD 0)) := by
  rw [cell_of_row w g i _ _ _ h]
  simp [List.getElem?_eq_getElem hi]
theorem IntBlk.frozen {w : World} {g : Nat} {L : List Int} (h : IntBlk w g L) (i : Nat) : w.frozen? ⟨g, i, none⟩ = false := by
  unfold IntBlk at h
  simp [World.frozen?, h]
theorem IntBlk.at_ {w : World} {g : Nat} {L : List Int} (h : IntBlk w g L) : IntsAt w (some ⟨g, 0, none⟩) L :=
  fun _ => ⟨g, 0, rfl, h.lt, fun i hi => by rw [Nat.zero_add]; exact h.cell i hi⟩
theorem IntBlk.set_ {w : World} {g : Nat} {L : List Int} (h : IntBlk w g L) (i : Nat) (u : Int) : IntBlk (w.setCell ⟨g, i, none⟩ (.int .i64 u)) g (L.set i u) := by
  unfold IntBlk at h ⊢
  simp [World.setCell, Array.getElem?_modify, h, List.map_set]
theorem IntBlk.below {w w' : World} {B g : Nat} {L : List Int} (h : IntBlk w g L) (hb : Below B w w') (hg : g < B) : IntBlk w' g L := (hb.block g hg).trans h
theorem IntBlk.new (w : World) (L : List Int) : IntBlk (w.alloc (.cells (L.map (Value.int .i64)).toArray 3)) w.heap.size L := heap_alloc_new w _

theorem and_one (x : Int) : bits BinOp.and IntKind.i64 x 1 = x % 2 := by
  show IntKind.i64.wrap (((BitVec.ofInt 64 x &&& BitVec.ofInt 64 1).toNat : Nat) : Int) = x % 2
  have e2 : (BitVec.ofInt 64 x &&& BitVec.ofInt 64 1).toNat = (BitVec.ofInt 64 x).toNat % 2 := by
    rw [BitVec.toNat_and, show (BitVec.ofInt 64 1).toNat = 1 by decide, Nat.and_one_is_mod]
  rw [e2, BitVec.toNat_ofInt, IntWalk.i64_in]
  · omega
  · omega

def zerosL (k : Nat) : List Int := List.replicate k 0
theorem zerosL_length (k : Nat) : (zerosL k).length = k := by simp [zerosL]
theorem int_info : (Tryz.prog.info? 3).map (fun i => (i.zero, i.size, i.bytes)) = some (some (.int .i64 0), 1, 8) := by kernel_rfl
theorem make_ints (k : Nat) (hk : k ≤ 1099511627776) (w : World) : (Instr.makeSlice 80 (.int .i64 k) (.int .i64 k)).run Tryz.prog w =
    .ok (.slice (some ⟨w.heap.size, 0, none⟩) k k) (w.alloc (.cells ((zerosL k).map (Value.int .i64)).toArray 3)) := by
  obtain ⟨i0, hi, hz0, hz1, hz2⟩ := info_parts int_info
  have h := run_make (P := Tryz.prog) w 80 3 i0 _ Tryz.underlying80 hi hz0 .i64 .i64 k k (by omega) (by omega) (by rw [hz2]; omega) (by omega)
  rw [h, hz1]
  have e : madeCells (Value.int IntKind.i64 0).cells ((k : Int).toNat * 1) = ((zerosL k).map (Value.int .i64)).toArray := by
    apply Array.ext
    · simp [madeCells, zerosL]
    · intro i h1 h2
      simp [madeCells, zerosL, Value.cells, Nat.mod_one]
  rw [e, Int.toNat_natCast]

theorem bits_step (v : Int) (k j : Nat) (h : j < k) : (bitsL v j ++ zerosL (k - j)).set j (v / 2 ^ j % 2) = bitsL v (j + 1) ++ zerosL (k - (j + 1)) := by
  rw [List.set_append_right _ _ (by rw [bitsL_length]; omega), bitsL_length, Nat.sub_self]
  obtain ⟨m, rfl⟩ : ∃ m, k = j + 1 + m := ⟨k - (j + 1), by omega⟩
  rw [show j + 1 + m - j = m + 1 by omega, show j + 1 + m - (j + 1) = m by omega]
  unfold bitsL zerosL
  rw [List.replicate_succ, List.set_cons_zero, List.range_succ, List.map_append]
  simp

set_option maxHeartbeats 1000000 in
theorem row_any (v : Int) (k : Nat) (hk : k ≤ 64) (w : World) :
    Calls Tryz.prog 59 #[.int .i64 v, .int .i64 k] w fun e w' => e = .returned (.slice (some ⟨w.heap.size, 0, none⟩) k k) ∧ IntBlk w' w.heap.size (bitsL v k) ∧ Below w.heap.size w w' ∧ w'.heap.size = w.heap.size + 1 := by
  have hmk := make_ints k (by omega)
  go_enter Tryz.func59, Tryz.ntmps59
  go_wp2
  clear hmk
  go_loopw [6] (fun i wr => ∃ j : Nat, j ≤ k ∧ i = .int .i64 j ∧ IntBlk wr w.heap.size (bitsL v j ++ zerosL (k - j)) ∧ Below w.heap.size w wr ∧ wr.heap.size = w.heap.size + 1) (fun i _ => (k - intOf i).toNat)
  case atStart => exact ⟨0, Nat.zero_le _, rfl, IntBlk.new w (zerosL k), (Below.refl _ _).alloc (Nat.le_refl _) _, by simp⟩
  case round =>
    obtain ⟨j, hj, rfl, hb, hB, hs⟩ := hrel
    by_cases hlt : j < k
    · have hc := hb.cell j (by simp [bitsL_length, zerosL_length]; omega)
      have hf := hb.frozen j
      have hset := hb.set_ j (v / 2 ^ j % 2)
      rw [bits_step v k j hlt] at hset
      have HS := Lib.hid hset
      clear hset
      go_wp2
      rw [and_one]
      go_roundw
      case rel => exact ⟨j + 1, by omega, by go_num, HS.out, hB.setCell (by simp) _, by simpa [World.setCell] using hs⟩
      case measure => simp [intOf]; omega
    · go_wp2
      go_ret
      obtain rfl : j = k := by omega
      exact ⟨rfl, by simpa [zerosL] using hb, hB, hs⟩
end Go.Proofs.YtjhgjplhhhgfcaaGreat
