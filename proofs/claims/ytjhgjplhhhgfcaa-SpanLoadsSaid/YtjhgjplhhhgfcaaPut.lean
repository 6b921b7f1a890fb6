/- Bytes of numbers: Put and Get of the program. -/
import Derived.Test.YtjhgjplhhhgfcaaExt
import Derived.Test.YtjhgjplhhhgfcaaOwn
namespace Go.Proofs.Ytjhgjplhhhgfcaa
open Go.ChangeShapes Go.WideShapes Go.ChangeAt Go.RowKit
open Bits
set_option linter.unusedVariables false

/-- block g is just these bytes, none of them frozen -/
def ByteBlk (w : World) (g : Nat) (L : List Int) : Prop := w.heap[g]? = some (.cells (L.map (Value.int .u8)).toArray 5 (0, 0))
theorem ByteBlk.lt {w : World} {g : Nat} {L : List Int} (h : ByteBlk w g L) : g < w.heap.size := by
  rcases Nat.lt_or_ge g w.heap.size with hlt | hge
  · exact hlt
  · unfold ByteBlk at h; rw [Array.getElem?_eq_none hge] at h; cases h
theorem ByteBlk.cell {w : World} {g : Nat} {L : List Int} (h : ByteBlk w g L) (i : Nat) (hi : i < L.length) : w.cell? ⟨g, i, none⟩ = some (.int .u8 (L[i]?.getD 0)) := by
  rw [cell_of_row w g i _ _ _ h]
  simp [List.getElem?_eq_getElem hi]
theorem ByteBlk.frozen {w : World} {g : Nat} {L : List Int} (h : ByteBlk w g L) (i : Nat) : w.frozen? ⟨g, i, none⟩ = false := by
  unfold ByteBlk at h
  simp [World.frozen?, h]
theorem ByteBlk.set_ {w : World} {g : Nat} {L : List Int} (h : ByteBlk w g L) (i : Nat) (u : Int) : ByteBlk (w.setCell ⟨g, i, none⟩ (.int .u8 u)) g (L.set i u) := by
  unfold ByteBlk at h ⊢
  simp [World.setCell, Array.getElem?_modify, h, List.map_set]
theorem ByteBlk.below {w w' : World} {B g : Nat} {L : List Int} (h : ByteBlk w g L) (hb : Below B w w') (hg : g < B) : ByteBlk w' g L := (hb.block g hg).trans h
theorem ByteBlk.new (w : World) (L : List Int) : ByteBlk (w.alloc (.cells (L.map (Value.int .u8)).toArray 5)) w.heap.size L := heap_alloc_new w _

/-- the slice's cells, in world w, are these bytes -/
def BytesAt (w : World) (A : Option Addr) (L : List Int) : Prop :=
  0 < L.length → ∃ b off, A = some ⟨b, off, none⟩ ∧ b < w.heap.size ∧ ∀ i, i < L.length → w.cell? ⟨b, off + i, none⟩ = some (.int .u8 (L[i]?.getD 0))
theorem ByteBlk.at_ {w : World} {g : Nat} {L : List Int} (h : ByteBlk w g L) : BytesAt w (some ⟨g, 0, none⟩) L :=
  fun _ => ⟨g, 0, rfl, h.lt, fun i hi => by rw [Nat.zero_add]; exact h.cell i hi⟩
theorem BytesAt.below {w w' : World} {A : Option Addr} {L : List Int} (h : BytesAt w A L) (hb : Below w.heap.size w w') : BytesAt w' A L := fun hp => by
  obtain ⟨b, off, rfl, hlt, hc⟩ := h hp
  exact ⟨b, off, rfl, Nat.lt_of_lt_of_le hlt hb.size, fun i hi => (hb.cell (p := ⟨b, off + i, none⟩) hlt).trans (hc i hi)⟩

/-- the lowest k bytes of a number, the lowest first -/
def bytesL (v : Int) (k : Nat) : List Int := (List.range k).map fun i => v / 2 ^ (8 * i) % 256
theorem bytesL_length (v : Int) (k : Nat) : (bytesL v k).length = k := by simp [bytesL]
theorem bytesL_get (v : Int) (k i : Nat) (h : i < k) : (bytesL v k)[i]? = some (v / 2 ^ (8 * i) % 256) := by simp [bytesL, h]
/-- the number that bytes are -/
def valB : List Int → Int
  | [] => 0
  | b :: t => b + 256 * valB t
theorem bytesL_succ (v : Int) (k : Nat) : bytesL v (k + 1) = (v % 256) :: bytesL (v / 256) k := by
  unfold bytesL
  rw [List.range_succ_eq_map]
  simp only [List.map_cons, List.map_map, Nat.mul_zero, Int.pow_zero, Int.ediv_one]
  congr 1
  apply List.map_congr_left
  intro i _
  simp only [Function.comp]
  rw [show 8 * (i + 1) = 8 + 8 * i by omega, Int.pow_add, show (2 : Int) ^ 8 = 256 from rfl, ← Int.ediv_ediv_of_nonneg (by decide : (0:Int) ≤ 256)]
theorem valB_bytes (v : Int) (k : Nat) : valB (bytesL v k) = v % 2 ^ (8 * k) := by
  induction k generalizing v with
  | zero => simp [bytesL, valB, Int.emod_one]
  | succ k ih =>
    rw [bytesL_succ, valB, ih, show 8 * (k + 1) = 8 + 8 * k by omega, Int.pow_add, show (2 : Int) ^ 8 = 256 from rfl]
    rw [Int.emod_def v (256 * 2 ^ (8 * k)), Int.emod_def (v / 256) (2 ^ (8 * k)), ← Int.ediv_ediv_of_nonneg (by decide : (0:Int) ≤ 256)]
    have := Int.emod_def v 256
    rw [Int.mul_assoc]
    omega
def Byt (l : List Int) : Prop := ∀ x ∈ l, 0 ≤ x ∧ x < 256
theorem byt_bytes (v : Int) (k : Nat) : Byt (bytesL v k) := by
  intro x hx
  simp only [bytesL, List.mem_map] at hx
  obtain ⟨i, _, rfl⟩ := hx
  omega
theorem byt_at {L : List Int} (h : Byt L) (k : Nat) : 0 ≤ L[k]?.getD 0 ∧ L[k]?.getD 0 < 256 := by
  rcases Nat.lt_or_ge k L.length with hk | hk
  · rw [List.getElem?_eq_getElem hk]; exact h _ (List.getElem_mem hk)
  · rw [List.getElem?_eq_none hk]; exact ⟨Int.le_refl _, by decide⟩
theorem valB_append (a b : List Int) : valB (a ++ b) = valB a + 2 ^ (8 * a.length) * valB b := by
  induction a with
  | nil => simp [valB]
  | cons x t ih =>
    simp only [List.cons_append, valB, ih, List.length_cons]
    rw [show 8 * (t.length + 1) = 8 + 8 * t.length by omega, Int.pow_add, show (2 : Int) ^ 8 = 256 from rfl, Int.mul_add, ← Int.mul_assoc, Int.add_assoc]
theorem valB_rng {l : List Int} (h : Byt l) : 0 ≤ valB l ∧ valB l < 2 ^ (8 * l.length) := by
  induction l with
  | nil => simp [valB]
  | cons x t ih =>
    have hx := h x (by simp)
    have ht := ih (fun y hy => h y (by simp [hy]))
    simp only [valB, List.length_cons]
    rw [show 8 * (t.length + 1) = 8 + 8 * t.length by omega, Int.pow_add, show (2 : Int) ^ 8 = 256 from rfl]
    generalize (2 : Int) ^ (8 * t.length) = P at *
    generalize valB t = y at *
    omega
theorem bytes_of_val {l : List Int} (h : Byt l) : bytesL (valB l) l.length = l := by
  induction l with
  | nil => rfl
  | cons x t ih =>
    have hx := h x (by simp)
    have ht := ih (fun y hy => h y (by simp [hy]))
    rw [List.length_cons, bytesL_succ, valB]
    rw [show (x + 256 * valB t) % 256 = x by omega, show (x + 256 * valB t) / 256 = valB t by omega, ht]

theorem byte_info : (Try.prog.info? 5).map (fun i => (i.zero, i.size, i.bytes)) = some (some (.int .u8 0), 1, 1) := by kernel_rfl
theorem make_bytes (k : Nat) (hk : k ≤ 1099511627776) (w : World) : (Instr.makeSlice 43 (.int .i64 k) (.int .i64 k)).run Try.prog w =
    .ok (.slice (some ⟨w.heap.size, 0, none⟩) k k) (w.alloc (.cells ((zerosL k).map (Value.int .u8)).toArray 5)) := by
  obtain ⟨i0, hi, hz0, hz1, hz2⟩ := info_parts byte_info
  have h := run_make (P := Try.prog) w 43 5 i0 _ Try.underlying43 hi hz0 .i64 .i64 k k (by omega) (by omega) (by rw [hz2]; omega) (by omega)
  rw [h, hz1]
  have e : madeCells (Value.int IntKind.u8 0).cells ((k : Int).toNat * 1) = ((zerosL k).map (Value.int .u8)).toArray := by
    apply Array.ext
    · simp [madeCells, zerosL]
    · intro i h1 h2
      simp [madeCells, zerosL, Value.cells, Nat.mod_one]
  rw [e, Int.toNat_natCast]

theorem bytes_step (v : Int) (k j : Nat) (h : j < k) : (bytesL v j ++ zerosL (k - j)).set j (v / 2 ^ (8 * j) % 256) = bytesL v (j + 1) ++ zerosL (k - (j + 1)) := by
  rw [List.set_append_right _ _ (by rw [bytesL_length]; omega), bytesL_length, Nat.sub_self]
  obtain ⟨m, rfl⟩ : ∃ m, k = j + 1 + m := ⟨k - (j + 1), by omega⟩
  rw [show j + 1 + m - j = m + 1 by omega, show j + 1 + m - (j + 1) = m by omega]
  unfold bytesL zerosL
  rw [List.replicate_succ, List.set_cons_zero, List.range_succ, List.map_append]
  simp

/-! ### Get -/
theorem or_step (v x : Int) (j : Nat) (hj : j < 8) (hv : 0 ≤ v ∧ v < 2 ^ (8 * j)) (hx : 0 ≤ x ∧ x < 256) :
    bits BinOp.or IntKind.u64 v (IntKind.u64.wrap (x * 2 ^ (8 * j))) = v + 2 ^ (8 * j) * x := by
  obtain ⟨m, rfl⟩ := Int.eq_ofNat_of_zero_le hv.1
  obtain ⟨y, rfl⟩ := Int.eq_ofNat_of_zero_le hx.1
  have hp : 0 < 2 ^ (8 * j) := Nat.pow_pos (by decide)
  have hP : (2 : Nat) ^ (8 * j) ≤ 2 ^ 56 := Nat.pow_le_pow_right (by decide) (by omega)
  rw [show (2 : Nat) ^ 56 = 72057594037927936 from rfl] at hP
  have hc : ((2 : Int) ^ (8 * j)) = ((2 ^ (8 * j) : Nat) : Int) := by simp
  rw [hc] at hv ⊢
  have hm : m < 2 ^ (8 * j) := by omega
  have hy : y < 256 := by omega
  have hyP : y * 2 ^ (8 * j) ≤ 255 * 72057594037927936 := Nat.mul_le_mul (by omega) hP
  have e1 : IntKind.u64.wrap ((y : Int) * ((2 ^ (8 * j) : Nat) : Int)) = ((y * 2 ^ (8 * j) : Nat) : Int) := by
    rw [← Int.natCast_mul, IntKind.wrap_u64]; omega
  rw [e1, u64_or_nat m _ (by omega) (by omega), Nat.or_comm, nat_join (8 * j) _ _ (Nat.mul_mod_left _ _) hm, Nat.mul_comm]
  omega
theorem take_step (L : List Int) (j : Nat) (h : j < L.length) : valB (L.take (j + 1)) = valB (L.take j) + 2 ^ (8 * j) * (L[j]?.getD 0) := by
  rw [List.take_succ_eq_append_getElem h, valB_append, List.length_take, Nat.min_eq_left (Nat.le_of_lt h), List.getElem?_eq_getElem h]
  simp [valB]
theorem byt_take {L : List Int} (h : Byt L) (k : Nat) : Byt (L.take k) := fun x hx => h x (List.mem_of_mem_take hx)

def getV (L : List Int) (s : Bool) : Int := if L.length < 1 ∨ 8 < L.length then 0 else if s = true then sx (8 * L.length) (valB L) else wrap64 (valB L)

end Go.Proofs.Ytjhgjplhhhgfcaa
