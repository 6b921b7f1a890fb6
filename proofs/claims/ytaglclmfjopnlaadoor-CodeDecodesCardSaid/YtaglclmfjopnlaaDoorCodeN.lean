/- Package code: second, appendTo. -/
import Derived.Test.YtaglclmfjopnlaaDoorCodeK
import Derived.Test.YtaglclmfjopnlaaDoorCore
import Derived.Deep.DeepCutAuto
namespace Go.Proofs.YtaglclmfjopnlaaDoor
open Go.ChangeShapes Go.WideShapes Go.ChangeAt Go.RowKit
open Cod Bits
set_option linter.unusedVariables false

/-- the eight bytes of a unit -/
def unitB (oc dst src off imm : Int) : List Int :=
  [oc % 256, bits BinOp.or IntKind.i64 dst (wrap64 (src * 16)) % 256, off % 256, off / 256 % 256, imm % 256, imm / 256 % 256, imm / 65536 % 256, imm / 16777216 % 256]
theorem OwnB.alloc {w : World} {base : Nat} {v : Value} {L : List Int} (h : OwnB w base v L) (o : Obj) : OwnB (w.alloc o) base v L := World.ownsRow.alloc h o

/-- but for the row that is appended to, what was there stays -/
def KeepsBut (v : Value) (w w' : World) : Prop := ∀ b, b < w.heap.size → some b ≠ v.ownBlock → w'.heap[b]? = w.heap[b]?
theorem append_bytes2 {P : Program} (hu : P.underlying 22 = some (.slice 5)) (hinf : (P.info? 5).map (fun i => (i.zero, i.size, i.bytes)) = some (some (.int .u8 0), 1, 1)) (w : World) {ops : Array Oper} {rest : List Oper} {o : Oper} {a : Act} {Q : Exit → Act → World → Prop} (hgd : o.guard = none) (s x : Operand)
    (ho : o.op = .call { callee := .builtin .append, args := #[s, x], argTypes := #[22, 22] })
    (base : Nat) (v : Value) (L : List Int) (hs : a.eval s = v) (hown : OwnB w base v L)
    (A : Option Addr) (m c : Nat) (M : List Int) (hx : a.eval x = .slice A m c) (hm : M.length = m) (hr : BytesAt w A M)
    (hlen : L.length + m ≤ 140737488355328) (hbase : base ≤ w.heap.size)
    (h : ∀ v' w', OwnB w' base v' (L ++ M) → Below base w w' → KeepsBut v w w' → wpList P ops Q rest (a.put o.dst v') w') : wpList P ops Q (o :: rest) a w := by
  subst hm
  obtain ⟨i0, hi, hz0, hz1, hz2⟩ := info_parts hinf
  refine wpList_append_any w hgd s x 22 ho base 5 i0 (.int .u8 0) 1 1 hu hi hz0 hz1 hz2 rfl (by decide) v L.length _ hs hown w.heap.size A M.length c _ hx hr.reads
    (fun u hu => ?_) (by unfold maxLen; omega) (by omega) hbase ?_
  · simp only [List.mem_map] at hu
    obtain ⟨z, _, rfl⟩ := hu
    rfl
  · intro v' w' h1 h2 _
    refine h v' w' ?_ ((Below.refl base w).grown h2 hbase fun k hk => (World.ownsRow.lt hown k hk).1) (fun b hb hne => h2.block b hb hne)
    unfold OwnB
    rw [List.length_append, List.map_append]
    exact h1

set_option maxRecDepth 100000 in
set_option maxHeartbeats 2000000 in
theorem appendTo_any (oc dst src off imm : Int) (w : World) (base : Nat) (v : Value) (L : List Int) (hown : OwnB w base v L) (hl : L.length ≤ 1099511627776) (hb : base ≤ w.heap.size) :
    Calls Tryd.prog 35 #[.agg #[.int .i64 oc, .int .i64 dst, .int .i64 src, .int .i64 off, .int .i64 imm], v] w fun e w' => ∃ v', e = .returned v' ∧ OwnB w' base v' (L ++ unitB oc dst src off imm) ∧ Below base w w' ∧ KeepsBut v w w' := by
  have hbyt : BytesAt ((w.alloc (.cells #[.int .i64 oc, .int .i64 dst, .int .i64 src, .int .i64 off, .int .i64 imm] 61)).alloc (.cells #[.int .u8 (oc % 256), .int .u8 (bits BinOp.or IntKind.i64 dst (wrap64 (src * 16)) % 256), .int .u8 (off % 256), .int .u8 (off / 256 % 256), .int .u8 (imm % 256), .int .u8 (imm / 256 % 256), .int .u8 (imm / 65536 % 256), .int .u8 (imm / 16777216 % 256)] 5)) (some ⟨w.heap.size + 1, 0, none⟩) (unitB oc dst src off imm) := by
    have := (ByteBlk.new (w.alloc (.cells #[.int .i64 oc, .int .i64 dst, .int .i64 src, .int .i64 off, .int .i64 imm] 61)) (unitB oc dst src off imm)).at_
    simpa [unitB] using this
  have HX := Lib.hid hbyt
  have HO := Lib.hid ((hown.alloc (.cells #[.int .i64 oc, .int .i64 dst, .int .i64 src, .int .i64 off, .int .i64 imm] 61)).alloc (.cells #[.int .u8 (oc % 256), .int .u8 (bits BinOp.or IntKind.i64 dst (wrap64 (src * 16)) % 256), .int .u8 (off % 256), .int .u8 (off / 256 % 256), .int .u8 (imm % 256), .int .u8 (imm / 256 % 256), .int .u8 (imm / 65536 % 256), .int .u8 (imm / 16777216 % 256)] 5))
  have hBB : Below base w ((w.alloc (.cells #[.int .i64 oc, .int .i64 dst, .int .i64 src, .int .i64 off, .int .i64 imm] 61)).alloc (.cells #[.int .u8 (oc % 256), .int .u8 (bits BinOp.or IntKind.i64 dst (wrap64 (src * 16)) % 256), .int .u8 (off % 256), .int .u8 (off / 256 % 256), .int .u8 (imm % 256), .int .u8 (imm / 256 % 256), .int .u8 (imm / 65536 % 256), .int .u8 (imm / 16777216 % 256)] 5)) := ((Below.refl _ _).alloc hb _).alloc (by simp; omega) _
  have HBB := Lib.hid hBB
  have hl1 : L.length + 8 ≤ 140737488355328 := by omega
  have hl2 : base ≤ ((w.alloc (.cells #[.int .i64 oc, .int .i64 dst, .int .i64 src, .int .i64 off, .int .i64 imm] 61)).alloc (.cells #[.int .u8 (oc % 256), .int .u8 (bits BinOp.or IntKind.i64 dst (wrap64 (src * 16)) % 256), .int .u8 (off % 256), .int .u8 (off / 256 % 256), .int .u8 (imm % 256), .int .u8 (imm / 256 % 256), .int .u8 (imm / 65536 % 256), .int .u8 (imm / 16777216 % 256)] 5)).heap.size := by simp; omega
  clear hown hbyt hBB
  go_enter Tryd.func35, Tryd.ntmps35
  go_wp2_with (at_builtin; (refine append_bytes2 Tryd.underlying22 byte_info _ rfl (.tmp 5) (.tmp 38) rfl base _ _ rfl HO.out _ 8 8 _ rfl rfl HX.out hl1 hl2 ?_; intro v' w' hown' hB' hK'))
  go_ret
  refine ⟨v', rfl, hown', HBB.out.trans hB', fun b hb hne => (hK' b (by simp; omega) hne).trans ?_⟩
  rw [Below.heap_alloc _ _ _ (by simp; omega), Below.heap_alloc _ _ _ hb]

set_option maxHeartbeats 1000000 in
theorem second_any (op : Int) (nar reg : Bool) (size dst src off imm : Int) (w : World) :
    Calls Tryd.prog 37 #[.agg #[.int .i64 op, .bool nar, .bool reg, .int .i64 size, .int .i64 dst, .int .i64 src, .int .i64 off, .int .i64 imm]] w fun e w' => e = .returned (.agg #[.int .i64 0, .int .i64 0, .int .i64 0, .int .i64 0, .int .i64 (if op = 20 then imm / 4294967296 else imm)]) ∧ Below w.heap.size w w' := by
  by_cases h : op = 20
  · subst h
    rw [if_pos rfl]
    have hr : Blk ((w.alloc (.cells #[.int .i64 20, .bool nar, .bool reg, .int .i64 size, .int .i64 dst, .int .i64 src, .int .i64 off, .int .i64 imm] 41)).alloc (.cells #[.int .i64 0, .int .i64 0, .int .i64 0, .int .i64 0, .int .i64 (imm / 4294967296)] 61)) (w.heap.size + 1) 61 #[.int .i64 0, .int .i64 0, .int .i64 0, .int .i64 0, .int .i64 (imm / 4294967296)] := by
      simpa using Blk.new (w.alloc (.cells #[.int .i64 20, .bool nar, .bool reg, .int .i64 size, .int .i64 dst, .int .i64 src, .int .i64 off, .int .i64 imm] 41)) 61 #[.int .i64 0, .int .i64 0, .int .i64 0, .int .i64 0, .int .i64 (imm / 4294967296)]
    have HR := Lib.hid hr
    have HB := Lib.hid ((below_box w (.cells #[.int .i64 20, .bool nar, .bool reg, .int .i64 size, .int .i64 dst, .int .i64 src, .int .i64 off, .int .i64 imm] 41)).alloc (by simp) (.cells #[.int .i64 0, .int .i64 0, .int .i64 0, .int .i64 0, .int .i64 (imm / 4294967296)] 61))
    clear hr
    go_enter Tryd.func37, Tryd.ntmps37
    go_wp2_with fail
    exact bodyPost_ret (v := .agg #[.int .i64 0, .int .i64 0, .int .i64 0, .int .i64 0, .int .i64 (imm / 4294967296)]) (results_cell_row Tryd.results37 _ _ (w.heap.size + 1) 61 #[.int .i64 0, .int .i64 0, .int .i64 0, .int .i64 0, .int .i64 (imm / 4294967296)] (0, 0) _ rfl HR.out Tryd.underlying61 rfl (by kernel_rfl)) rfl ⟨rfl, HB.out⟩
  · rw [if_neg h]
    have t : (op == 20) = false := by rw [beq_eq_false_iff_ne]; exact h
    clear h
    have hr : Blk ((w.alloc (.cells #[.int .i64 op, .bool nar, .bool reg, .int .i64 size, .int .i64 dst, .int .i64 src, .int .i64 off, .int .i64 imm] 41)).alloc (.cells #[.int .i64 0, .int .i64 0, .int .i64 0, .int .i64 0, .int .i64 imm] 61)) (w.heap.size + 1) 61 #[.int .i64 0, .int .i64 0, .int .i64 0, .int .i64 0, .int .i64 imm] := by
      simpa using Blk.new (w.alloc (.cells #[.int .i64 op, .bool nar, .bool reg, .int .i64 size, .int .i64 dst, .int .i64 src, .int .i64 off, .int .i64 imm] 41)) 61 #[.int .i64 0, .int .i64 0, .int .i64 0, .int .i64 0, .int .i64 imm]
    have HR := Lib.hid hr
    have HB := Lib.hid ((below_box w (.cells #[.int .i64 op, .bool nar, .bool reg, .int .i64 size, .int .i64 dst, .int .i64 src, .int .i64 off, .int .i64 imm] 41)).alloc (by simp) (.cells #[.int .i64 0, .int .i64 0, .int .i64 0, .int .i64 0, .int .i64 imm] 61))
    clear hr
    go_enter Tryd.func37, Tryd.ntmps37
    go_wp2_with fail
    exact bodyPost_ret (v := .agg #[.int .i64 0, .int .i64 0, .int .i64 0, .int .i64 0, .int .i64 imm]) (results_cell_row Tryd.results37 _ _ (w.heap.size + 1) 61 #[.int .i64 0, .int .i64 0, .int .i64 0, .int .i64 0, .int .i64 imm] (0, 0) _ rfl HR.out Tryd.underlying61 rfl (by kernel_rfl)) rfl ⟨rfl, HB.out⟩

/-- an instruction's unit, or the first of two -/
def firstO (i : Ins) : Int := if i.op = 6 ∨ i.op = 7 then 1 else if i.op = 16 then i.size else i.off
def firstI (i : Ins) : Int := if i.op = 17 ∨ i.op = 18 ∨ i.op = 19 then i.size else if i.op = 20 then wrap32 i.imm else if i.op = 21 then 0 else i.imm
def firstS (i : Ins) : Int := if i.op = 21 then 6 else i.src
def Ins.oc (i : Ins) : Int := opcodeL i.op i.nar i.reg i.size
def Ins.val (i : Ins) : Value := .agg #[.int .i64 i.op, .bool i.nar, .bool i.reg, .int .i64 i.size, .int .i64 i.dst, .int .i64 i.src, .int .i64 i.off, .int .i64 i.imm]
end Go.Proofs.YtaglclmfjopnlaaDoor
