/- Contracts of the document's rows of bits: row, number, signed, width. -/
import Derived.Test.YthibideapapcbaaDoorRows
import Derived.Test.YthibideapapcbaaDoorBits
import Derived.WalkKit
import Derived.ProofKit
import Derived.OpenShut
import Derived.Lib.Hide
namespace Go.Proofs.YthibideapapcbaaDoor
open Go.ChangeShapes Go.WideShapes Go.ChangeAt Go.RowKit
open Bits

/-- the slice's cells, in world w, are these ints -/
def IntsAt (w : World) (A : Option Addr) (L : List Int) : Prop :=
  0 < L.length → ∃ b off, A = some ⟨b, off, none⟩ ∧ b < w.heap.size ∧ ∀ i, i < L.length → w.cell? ⟨b, off + i, none⟩ = some (.int .i64 (L[i]?.getD 0))

theorem w64_step (b x : Int) : wrap64 (wrap64 (2 * wrap64 x) + b) = wrap64 (b + 2 * x) := by
  unfold wrap64; omega

/-- block g is just these ints, none of them frozen -/
def IntBlk (w : World) (g : Nat) (L : List Int) : Prop := w.heap[g]? = some (.cells (L.map (Value.int .i64)).toArray 3 (0, 0))

theorem IntBlk.lt {w : World} {g : Nat} {L : List Int} (h : IntBlk w g L) : g < w.heap.size := by
  rcases Nat.lt_or_ge g w.heap.size with hlt | hge
  · exact hlt
  · unfold IntBlk at h; rw [Array.getElem?_eq_none hge] at h; cases h
theorem IntBlk.cell {w : World} {g : Nat} {L : List Int} (h : IntBlk w g L) (i : Nat) (hi : i < L.length) : w.cell? ⟨g, i, none⟩ = some (.int .i64 (L[i]?.getD 0)) := by
  rw [cell_of_row w g i _ _ _ h]
  simp [List.getElem?_eq_getElem hi]
theorem IntBlk.frozen {w : World} {g : Nat} {L : List Int} (h : IntBlk w g L) (i : Nat) : w.frozen? ⟨g, i, none⟩ = false := by
  unfold IntBlk at h
  simp [World.frozen?, h]
theorem IntBlk.at_ {w : World} {g : Nat} {L : List Int} (h : IntBlk w g L) : IntsAt w (some ⟨g, 0, none⟩) L :=
  fun _ => ⟨g, 0, rfl, h.lt, fun i hi => by rw [Nat.zero_add]; exact h.cell i hi⟩
theorem IntBlk.set_ {w : World} {g : Nat} {L : List Int} (h : IntBlk w g L) (i : Nat) (u : Int) : IntBlk (w.setCell ⟨g, i, none⟩ (.int .i64 u)) g (L.set i u) := by
  unfold IntBlk at h ⊢
  simp [World.setCell, Array.getElem?_modify, h, List.map_set]
theorem IntBlk.below {w w' : World} {B g : Nat} {L : List Int} (h : IntBlk w g L) (hb : Below B w w') (hg : g < B) : IntBlk w' g L := (hb.block g hg).trans h
theorem IntBlk.new (w : World) (L : List Int) : IntBlk (w.alloc (.cells (L.map (Value.int .i64)).toArray 3)) w.heap.size L := heap_alloc_new w _

theorem and_one (x : Int) : bits BinOp.and IntKind.i64 x 1 = x % 2 := by
  show IntKind.i64.wrap (((BitVec.ofInt 64 x &&& BitVec.ofInt 64 1).toNat : Nat) : Int) = x % 2
  have e2 : (BitVec.ofInt 64 x &&& BitVec.ofInt 64 1).toNat = (BitVec.ofInt 64 x).toNat % 2 := by
    rw [BitVec.toNat_and, show (BitVec.ofInt 64 1).toNat = 1 by decide, Nat.and_one_is_mod]
  rw [e2, BitVec.toNat_ofInt, IntWalk.i64_in]
  · omega
  · omega

def zerosL (k : Nat) : List Int := List.replicate k 0
theorem zerosL_length (k : Nat) : (zerosL k).length = k := by simp [zerosL]
theorem int_info : (Tryd.prog.info? 3).map (fun i => (i.zero, i.size, i.bytes)) = some (some (.int .i64 0), 1, 8) := by kernel_rfl
theorem make_ints (k : Nat) (hk : k ≤ 1099511627776) (w : World) : (Instr.makeSlice 49 (.int .i64 k) (.int .i64 k)).run Tryd.prog w =
    .ok (.slice (some ⟨w.heap.size, 0, none⟩) k k) (w.alloc (.cells ((zerosL k).map (Value.int .i64)).toArray 3)) := by
  obtain ⟨i0, hi, hz0, hz1, hz2⟩ := info_parts int_info
  have h := run_make (P := Tryd.prog) w 49 3 i0 _ Tryd.underlying49 hi hz0 .i64 .i64 k k (by omega) (by omega) (by rw [hz2]; omega) (by omega)
  rw [h, hz1]
  have e : madeCells (Value.int IntKind.i64 0).cells ((k : Int).toNat * 1) = ((zerosL k).map (Value.int .i64)).toArray := by
    apply Array.ext
    · simp [madeCells, zerosL]
    · intro i h1 h2
      simp [madeCells, zerosL, Value.cells, Nat.mod_one]
  rw [e, Int.toNat_natCast]

theorem bits_step (v : Int) (k j : Nat) (h : j < k) : (bitsL v j ++ zerosL (k - j)).set j (v / 2 ^ j % 2) = bitsL v (j + 1) ++ zerosL (k - (j + 1)) := by
  rw [List.set_append_right _ _ (by rw [bitsL_length]; omega), bitsL_length, Nat.sub_self]
  obtain ⟨m, rfl⟩ : ∃ m, k = j + 1 + m := ⟨k - (j + 1), by omega⟩
  rw [show j + 1 + m - j = m + 1 by omega, show j + 1 + m - (j + 1) = m by omega]
  unfold bitsL zerosL
  rw [List.replicate_succ, List.set_cons_zero, List.range_succ, List.map_append]
  simp

end Go.Proofs.YthibideapapcbaaDoor
