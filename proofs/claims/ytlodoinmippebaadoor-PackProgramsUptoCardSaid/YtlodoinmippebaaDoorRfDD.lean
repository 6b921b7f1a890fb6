/- Texts in one: RfJ RfK. -/
import Derived.Test.YtlodoinmippebaaDoorRfA
import Derived.Test.YtlodoinmippebaaDoorCodeT
import Derived.Test.YtlodoinmippebaaDoorRfB
import Derived.Deep.DeepCutAuto
import Derived.Test.YtlodoinmippebaaDoorRfC
import Derived.StillTailTactics
/- Bytes of an instruction, of the document's answer for package code: low and bytes. -/
namespace Go.Proofs.YtlodoinmippebaaDoor.Rf
open Go.ChangeShapes Go.WideShapes Go.ChangeAt Go.RowKit
open Cod Bits
set_option linter.unusedVariables false
set_option linter.unusedSimpArgs false

/-- a slice of the caller's own grew: nothing else was written -/
structure Grew (v0 : Value) (w0 : World) (v : Value) (w : World) : Prop where
  size : w0.heap.size ≤ w.heap.size
  kept : ∀ b, b < w0.heap.size → some b ≠ v0.ownBlock → w.heap[b]? = w0.heap[b]?
  own : v.ownBlock = v0.ownBlock ∨ ∃ g, v.ownBlock = some g ∧ w0.heap.size ≤ g
theorem Grew.refl (v : Value) (w : World) : Grew v w v w := ⟨Nat.le_refl _, fun _ _ _ => rfl, .inl rfl⟩
theorem Grew.trans {v0 v1 v2 : Value} {w0 w1 w2 : World} (h : Grew v0 w0 v1 w1) (k : Grew v1 w1 v2 w2) : Grew v0 w0 v2 w2 := by
  refine ⟨Nat.le_trans h.size k.size, fun b hb hne => ?_, ?_⟩
  · rw [k.kept b (Nat.lt_of_lt_of_le hb h.size) ?_, h.kept b hb hne]
    rcases h.own with e | ⟨g, e, hg⟩
    · rw [e]; exact hne
    · rw [e]; intro e2; injection e2 with e2; omega
  · rcases k.own with e | ⟨g, e, hg⟩
    · rw [e]; exact h.own
    · exact .inr ⟨g, e, Nat.le_trans h.size hg⟩
theorem Grew.alloc {v0 v : Value} {w0 w : World} (h : Grew v0 w0 v w) (o : Obj) : Grew v0 w0 v (w.alloc o) :=
  ⟨Nat.le_trans h.size (by simp), fun b hb hne => (Below.heap_alloc w o b (Nat.lt_of_lt_of_le hb h.size)).trans (h.kept b hb hne), h.own⟩
theorem _root_.Go.Proofs.YtlodoinmippebaaDoor.Blk.grew {w w' : World} {g : Nat} {t : TypeId} {cs : Array Value} {v v' : Value} (h : Blk w g t cs) (k : Grew v w v' w') (hne : some g ≠ v.ownBlock) : Blk w' g t cs := (k.kept g h.lt hne).trans h
theorem _root_.Go.Proofs.YtlodoinmippebaaDoor.OwnB.form' {w : World} {base : Nat} {v : Value} {L : List Int} (h : OwnB w base v L) : ∃ A m c, v = .slice A m c ∧ Hid (m = L.length) := by
  obtain ⟨A, c, hv, _⟩ := h.form
  exact ⟨A, _, c, hv, Lib.hid rfl⟩
theorem append_bytes3 {P : Program} (hu : P.underlying 22 = some (.slice 5)) (hinf : (P.info? 5).map (fun i => (i.zero, i.size, i.bytes)) = some (some (.int .u8 0), 1, 1)) (w : World) {ops : Array Oper} {rest : List Oper} {o : Oper} {a : Act} {Q : Exit → Act → World → Prop} (hgd : o.guard = none) (s x : Operand)
    (ho : o.op = .call { callee := .builtin .append, args := #[s, x], argTypes := #[22, 22] })
    (base : Nat) (v : Value) (L : List Int) (hs : a.eval s = v) (hown : OwnB w base v L)
    (A : Option Addr) (m c : Nat) (M : List Int) (hx : a.eval x = .slice A m c) (hm : M.length = m) (hr : BytesAt w A M)
    (hlen : L.length + m ≤ 140737488355328) (hbase : base ≤ w.heap.size)
    (h : ∀ v' w', OwnB w' base v' (L ++ M) → Below base w w' → Grew v w v' w' → wpList P ops Q rest (a.put o.dst v') w') : wpList P ops Q (o :: rest) a w := by
  subst hm
  obtain ⟨i0, hi, hz0, hz1, hz2⟩ := info_parts hinf
  refine wpList_append_any w hgd s x 22 ho base 5 i0 (.int .u8 0) 1 1 hu hi hz0 hz1 hz2 rfl (by decide) v L.length _ hs hown w.heap.size A M.length c _ hx hr.reads
    (fun u hu => ?_) (by unfold maxLen; omega) (by omega) hbase ?_
  · simp only [List.mem_map] at hu
    obtain ⟨z, _, rfl⟩ := hu
    rfl
  · intro v' w' h1 h2 h3
    have hB := (Below.refl base w).grown h2 hbase fun k hk => (World.ownsRow.lt hown k hk).1
    have hbig := (Below.refl base w).grown h2 hbase fun k hk => (World.ownsRow.lt hown k hk).1
    refine h v' w' ?_ hB ⟨h2.size, fun b hb hne => h2.block b hb hne, ?_⟩
    · unfold OwnB
      rw [List.length_append, List.map_append]
      exact h1
    · rcases h3 with e | e
      · exact .inl e
      · exact .inr ⟨_, e, Nat.le_refl _⟩
theorem and_255 (x : Int) : bits BinOp.and IntKind.i64 x 255 = x % 256 := by
  show IntKind.i64.wrap (((BitVec.ofInt 64 x &&& BitVec.ofInt 64 255).toNat : Nat) : Int) = x % 256
  have e1 : (BitVec.ofInt 64 (255 : Int)).toNat = 2 ^ 8 - 1 := by decide
  rw [BitVec.toNat_and, e1, Nat.and_two_pow_sub_one_eq_mod, BitVec.toNat_ofInt]
  have e2 : (((x % ((2 ^ 64 : Nat) : Int)).toNat % 2 ^ 8 : Nat) : Int) = x % 256 := by omega
  rw [e2]
  exact IntWalk.i64_in _ (by omega)
theorem lowL_take (x : Int) (k j : Nat) (h : j < k) : (lowL x k).take (j + 1) = (lowL x k).take j ++ [x / 256 ^ j % 256] := by
  induction k generalizing x j with
  | zero => omega
  | succ k ih =>
    cases j with
    | zero => simp [lowL]
    | succ j =>
      rw [lowL, List.take_succ_cons, List.take_succ_cons, ih (x / 256) j (by omega), List.cons_append, Int.pow_succ, Int.mul_comm, Int.ediv_ediv_of_nonneg (by decide)]
theorem lowL_len (x : Int) (k : Nat) : (lowL x k).length = k := by
  induction k generalizing x with
  | zero => rfl
  | succ k ih => rw [lowL, List.length_cons, ih]
theorem pow_pos256 (j : Nat) : (0 : Int) < 256 ^ j := by
  induction j with
  | zero => decide
  | succ j ih => rw [Int.pow_succ]; omega
theorem div_next (x : Int) (j : Nat) : x / 256 ^ (j + 1) = x / 256 ^ j / 256 := by
  rw [Int.pow_succ, Int.ediv_ediv_of_nonneg (Int.le_of_lt (pow_pos256 j))]
theorem div_pow_rng {x : Int} (hx : -9223372036854775808 ≤ x ∧ x < 9223372036854775808) (j : Nat) : -9223372036854775808 ≤ x / 256 ^ j ∧ x / 256 ^ j < 9223372036854775808 := by
  induction j with
  | zero => simpa using hx
  | succ j ih => rw [div_next]; omega
theorem bytes_at1 (W : World) (x : Int) : BytesAt (W.alloc (.cells #[.int .u8 x] 5)) (some ⟨W.heap.size, 0, none⟩) [x] := (ByteBlk.new W [x]).at_
set_option maxHeartbeats 4000000 in
theorem rlow_any (x : Int) (k : Nat) (hk : k ≤ 8) (w : World) (base : Nat) (v : Value) (L : List Int) (hx : -9223372036854775808 ≤ x ∧ x < 9223372036854775808) (hown : OwnB w base v L) (hl : L.length ≤ 1099511627776) (hb : base ≤ w.heap.size) :
    Calls Tryd.prog 106 #[v, .int .i64 x, .int .i64 k] w fun e w' => ∃ v', e = .returned v' ∧ OwnB w' base v' (L ++ lowL x k) ∧ Below base w w' ∧ Grew v w v' w' := by
  have hg := Grew.refl v w
  obtain ⟨A, c, rfl, -⟩ := hown.form
  have HO := Lib.hid hown
  have HG := Lib.hid hg
  clear hown hg
  go_enter Tryd.func106, Tryd.ntmps106
  go_wp2_with fail
  go_loopw [0, 1, 7] (fun v' y i wr => ∃ j : Nat, j ≤ k ∧ i = .int .i64 j ∧ y = .int .i64 (x / 256 ^ j) ∧ OwnB wr base v' (L ++ (lowL x k).take j) ∧ Below base w wr ∧ Grew (.slice A L.length c) w v' wr) (fun _ _ i _ => (k - intOf i).toNat)
  case atStart => exact ⟨0, Nat.zero_le _, rfl, by simp, by simpa using HO.out, Below.refl _ _, HG.out⟩
  case round =>
    obtain ⟨j, hj, rfl, rfl, hown, hB, hgr⟩ := hrel
    by_cases hlt : j < k
    · have hlt' : (j : Int) < k := by omega
      obtain ⟨A', c', rfl, -⟩ := hown.form
      have hlen : (L ++ (lowL x k).take j).length + 1 ≤ 140737488355328 := by
        rw [List.length_append, List.length_take, lowL_len]; omega
      have hsz : base ≤ (wr.alloc (.cells #[.int .u8 (x / 256 ^ j % 256)] 5)).heap.size := Nat.le_trans (Nat.le_trans hb hB.size) (by simp)
      have how := hown.alloc (.cells #[.int .u8 (x / 256 ^ j % 256)] 5)
      have hby := bytes_at1 wr (x / 256 ^ j % 256)
      have HTK := Lib.hid (show L ++ (lowL x k).take (j + 1) = (L ++ (lowL x k).take j) ++ [x / 256 ^ j % 256] by rw [lowL_take x k j hlt, List.append_assoc])
      have HGB := Lib.hid (hgr.alloc (.cells #[.int .u8 (x / 256 ^ j % 256)] 5))
      have HBB := Lib.hid (hB.alloc (Nat.le_trans hb hB.size) (.cells #[.int .u8 (x / 256 ^ j % 256)] 5))
      have HNX := Lib.hid (div_next x j)
      obtain ⟨hy1, hy2⟩ := div_pow_rng hx j
      have h255 := and_255 (x / 256 ^ j)
      clear hown hB hgr
      generalize x / 256 ^ j = y at *
      generalize (L ++ (lowL x k).take j) = LL at *
      go_wp2_with (at_builtin; (refine append_bytes3 Tryd.underlying22 byte_info _ rfl (.tmp 13) (.tmp 17) rfl base _ _ rfl how _ 1 _ [_] rfl rfl hby hlen hsz ?_; intro v' w' hown' hB' hg'))
      go_roundw
      case rel => exact ⟨j + 1, by omega, by go_num, by rw [HNX.out], by rw [HTK.out]; exact hown', HBB.out.trans hB', HGB.out.trans hg'⟩
      case measure => simp [intOf]; omega
    · obtain rfl : j = k := by omega
      have hjn : decide ((j : Int) < j) = false := decide_eq_false (by omega)
      have htk : (lowL x j).take j = lowL x j := List.take_of_length_le (by rw [lowL_len]; exact Nat.le_refl _)
      rw [htk] at hown
      go_wp2_with fail
      go_ret
      exact ⟨_, rfl, hown, hB, hgr⟩
theorem rlow_2 (x : Int) (w : World) (base : Nat) (v : Value) (L : List Int) (hx : -9223372036854775808 ≤ x ∧ x < 9223372036854775808) (hown : OwnB w base v L) (hl : L.length ≤ 1099511627776) (hb : base ≤ w.heap.size) :
    Calls Tryd.prog 106 #[v, .int .i64 x, .int .i64 2] w fun e w' => ∃ v', e = .returned v' ∧ OwnB w' base v' (L ++ lowL x 2) ∧ Below base w w' ∧ Grew v w v' w' := rlow_any x 2 (by decide) w base v L hx hown hl hb
theorem rlow_4 (x : Int) (w : World) (base : Nat) (v : Value) (L : List Int) (hx : -9223372036854775808 ≤ x ∧ x < 9223372036854775808) (hown : OwnB w base v L) (hl : L.length ≤ 1099511627776) (hb : base ≤ w.heap.size) :
    Calls Tryd.prog 106 #[v, .int .i64 x, .int .i64 4] w fun e w' => ∃ v', e = .returned v' ∧ OwnB w' base v' (L ++ lowL x 4) ∧ Below base w w' ∧ Grew v w v' w' := rlow_any x 4 (by decide) w base v L hx hown hl hb
theorem cells11j {w : World} {g : Nat} {t : TypeId} {a b c d e f k l m n o : Value} (h : Blk w g t #[a, b, c, d, e, f, k, l, m, n, o]) :
    w.cell? ⟨g, 0, none⟩ = some a ∧ w.cell? ⟨g, 1, none⟩ = some b ∧ w.cell? ⟨g, 2, none⟩ = some c ∧ w.cell? ⟨g, 3, none⟩ = some d ∧ w.cell? ⟨g, 4, none⟩ = some e ∧ w.cell? ⟨g, 5, none⟩ = some f ∧ w.cell? ⟨g, 6, none⟩ = some k ∧ w.cell? ⟨g, 7, none⟩ = some l ∧ w.cell? ⟨g, 8, none⟩ = some m ∧ w.cell? ⟨g, 9, none⟩ = some n ∧ w.cell? ⟨g, 10, none⟩ = some o := by
  refine ⟨?_, ?_, ?_, ?_, ?_, ?_, ?_, ?_, ?_, ?_, ?_⟩ <;> rw [h.cell] <;> rfl
/-- inside bytes: the slice that grows, the row and the instruction beside it -/
structure BIn (w0 : World) (base : Nat) (b a : Array Value) (v : Value) (L : List Int) (W : World) : Prop where
  own : OwnB W base v L
  row : Blk W w0.heap.size 125 b
  ins : Blk W (w0.heap.size + 1) 71 a
  below : Below base w0 W
  ne : ∀ g, w0.heap.size ≤ g → g < w0.heap.size + 2 → some g ≠ v.ownBlock
  base_le : base ≤ w0.heap.size
  big : w0.heap.size + 2 ≤ W.heap.size
theorem BIn.start {w : World} {base : Nat} {v : Value} {L : List Int} (h : OwnB w base v L) (hb : base ≤ w.heap.size) (b a : Array Value) :
    BIn w base b a v L ((w.alloc (.cells b 125)).alloc (.cells a 71)) :=
  ⟨(h.alloc _).alloc _, (Blk.new w _ _).alloc _, blk_new2 w _ _ _, ((Below.refl base w).alloc hb _).alloc (by simp; omega) _, fun g h1 _ => h.ne h1, hb, by simp⟩
theorem BIn.grow {w0 : World} {base : Nat} {b a : Array Value} {v v' : Value} {L L' : List Int} {W W' : World} (h : BIn w0 base b a v L W) (ho : OwnB W' base v' L') (hb : Below base W W') (hg : Grew v W v' W') : BIn w0 base b a v' L' W' := by
  have hbig := h.big
  refine ⟨ho, h.row.grew hg (h.ne _ (Nat.le_refl _) (by omega)), h.ins.grew hg (h.ne _ (by omega) (by omega)), h.below.trans hb, fun g h1 h2 => ?_, h.base_le, Nat.le_trans hbig hg.size⟩
  rcases hg.own with e | ⟨g', e, hg'⟩
  · rw [e]; exact h.ne g h1 h2
  · rw [e]; intro e2; injection e2 with e2; omega
theorem BIn.alloc {w0 : World} {base : Nat} {b a : Array Value} {v : Value} {L : List Int} {W : World} (h : BIn w0 base b a v L W) (o : Obj) : BIn w0 base b a v L (W.alloc o) := by
  have hbig := h.big
  have := h.base_le
  exact ⟨h.own.alloc o, h.row.alloc o, h.ins.alloc o, h.below.alloc (by omega) o, h.ne, h.base_le, by simp; omega⟩
theorem BIn.drewN {w0 : World} {base : Nat} {b a : Array Value} {v : Value} {L : List Int} {W : World} (h : BIn w0 base b a v L W) (q : Nat) : BIn w0 base b a v L (W.drewN q) :=
  ⟨h.own, h.row, h.ins, belowDrewN h.below q, h.ne, h.base_le, h.big⟩
theorem bytes_at2 (W : World) (x y : Int) : BytesAt (W.alloc (.cells #[.int .u8 x, .int .u8 y] 5)) (some ⟨W.heap.size, 0, none⟩) [x, y] := (ByteBlk.new W [x, y]).at_
theorem bytes_at4 (W : World) : BytesAt (W.alloc (.cells #[.int .u8 0, .int .u8 0, .int .u8 0, .int .u8 0] 5)) (some ⟨W.heap.size, 0, none⟩) [0, 0, 0, 0] := (ByteBlk.new W [0, 0, 0, 0]).at_
set_option maxRecDepth 100000 in
set_option maxHeartbeats 600000 in
theorem rbytes_any (yc yo yz : Int) (yn yr : Bool) (yd ys yf yi y2 : Int) (yw : Bool) (op : Int) (nar reg : Bool) (size dst src off imm : Int)
    (hd : 0 ≤ pickN yd dst ∧ pickN yd dst < 16) (hs : 0 ≤ pickN ys src ∧ pickN ys src < 16) (ho : -9223372036854775808 ≤ pickN yf off ∧ pickN yf off < 9223372036854775808)
    (hi : -9223372036854775808 ≤ pickN yi imm ∧ pickN yi imm < 9223372036854775808) (hm : -9223372036854775808 ≤ imm ∧ imm < 9223372036854775808)
    (w : World) (base : Nat) (v : Value) (L : List Int) (hown : OwnB w base v L) (hl : L.length ≤ 65536) (hb : base ≤ w.heap.size) :
    Calls Tryd.prog 74 #[v, .agg (row11 yc yo yz yn yr yd ys yf yi y2 yw), .agg (ins8 op nar reg size dst src off imm)] w fun e w' => ∃ v', e = .returned v' ∧ OwnB w' base v' (L ++ bytesR ⟨yc, yo, yz, yn, yr, yd, ys, yf, yi, y2, yw⟩ ⟨op, nar, reg, size, dst, src, off, imm⟩) ∧ Below base w w' := by
  have HI := Lib.hid (BIn.start hown hb (row11 yc yo yz yn yr yd ys yf yi y2 yw) (ins8 op nar reg size dst src off imm))
  have HBR := Lib.hid (show bytesR ⟨yc, yo, yz, yn, yr, yd, ys, yf, yi, y2, yw⟩ ⟨op, nar, reg, size, dst, src, off, imm⟩ = [yc % 256, (16 * pickN ys src + pickN yd dst) % 256] ++ lowL (pickN yf off) 2 ++ lowL (pickN yi imm) 4 ++
    (if op = 20 then [0, 0, 0, 0] ++ lowL (imm / 4294967296) 4 else if op = 21 then [0, 0, 0, 0] ++ lowL imm 4 else []) from rfl)
  generalize bytesR ⟨yc, yo, yz, yn, yr, yd, ys, yf, yi, y2, yw⟩ ⟨op, nar, reg, size, dst, src, off, imm⟩ = BR at *
  obtain ⟨A, c, rfl, -⟩ := hown.form
  clear hown
  go_enter Tryd.func74, Tryd.ntmps74
  go_upto_region 1 with (fail)
  go_cut [7, 8, 9, 10] (fun s7 s8 s9 s10 wx => s7 = .int .i64 yd ∧ s8 = .int .i64 ys ∧ s9 = .int .i64 yf ∧ s10 = .int .i64 yi ∧ BIn w base (row11 yc yo yz yn yr yd ys yf yi y2 yw) (ins8 op nar reg size dst src off imm) (.slice A L.length c) L wx)
  case first =>
    obtain ⟨y0, y1, y2', y3, y4, y5, y6, y7, y8, y9, y10⟩ := cells11j HI.out.row
    go_quiet (fail)
    go_wp2_with fail
    go_meet
    case rel => exact ⟨rfl, rfl, rfl, rfl, HI.out.drewN _⟩
  case rest =>
    clear HI
    obtain ⟨rfl, rfl, rfl, rfl, hI⟩ := hcut
    have HI := Lib.hid hI
    clear hI
    go_upto_if 20 with (fail)
    go_cut [7] (fun s7 wx => s7 = .int .i64 (pickN yd dst) ∧ BIn w base (row11 yc yo yz yn yr yd ys yf yi y2 yw) (ins8 op nar reg size dst src off imm) (.slice A L.length c) L wx)
    case first =>
      obtain ⟨⟨c0, c1, c2, c3, c4, c5, c6, c7⟩, -⟩ := cells8 HI.out.ins
      by_cases e : yd = -1
      · have HP := Lib.hid (show pickN yd dst = dst by unfold pickN; rw [if_pos e])
        have t : (yd == -1) = true := by rw [e]; rfl
        clear e
        go_wp2_with fail
        go_meet
        case rel => exact ⟨by rw [HP.out], HI.out⟩
      · have HP := Lib.hid (show pickN yd dst = yd by unfold pickN; rw [if_neg e])
        have t : (yd == -1) = false := by rw [beq_eq_false_iff_ne]; exact e
        clear e
        go_wp2_with fail
        go_meet
        case rel => exact ⟨by rw [HP.out], HI.out⟩
    case rest =>
      clear HI
      obtain ⟨rfl, hI⟩ := hcut
      have HI := Lib.hid hI
      clear hI
      go_upto_if 24 with (fail)
      go_cut [8] (fun s8 wx => s8 = .int .i64 (pickN ys src) ∧ BIn w base (row11 yc yo yz yn yr yd ys yf yi y2 yw) (ins8 op nar reg size dst src off imm) (.slice A L.length c) L wx)
      case first =>
        obtain ⟨⟨c0, c1, c2, c3, c4, c5, c6, c7⟩, -⟩ := cells8 HI.out.ins
        by_cases e : ys = -1
        · have HP := Lib.hid (show pickN ys src = src by unfold pickN; rw [if_pos e])
          have t : (ys == -1) = true := by rw [e]; rfl
          clear e
          go_wp2_with fail
          go_meet
          case rel => exact ⟨by rw [HP.out], HI.out⟩
        · have HP := Lib.hid (show pickN ys src = ys by unfold pickN; rw [if_neg e])
          have t : (ys == -1) = false := by rw [beq_eq_false_iff_ne]; exact e
          clear e
          go_wp2_with fail
          go_meet
          case rel => exact ⟨by rw [HP.out], HI.out⟩
      case rest =>
        clear HI
        obtain ⟨rfl, hI⟩ := hcut
        have HI := Lib.hid hI
        clear hI
        go_upto_if 28 with (fail)
        go_cut [9] (fun s9 wx => s9 = .int .i64 (pickN yf off) ∧ BIn w base (row11 yc yo yz yn yr yd ys yf yi y2 yw) (ins8 op nar reg size dst src off imm) (.slice A L.length c) L wx)
        case first =>
          obtain ⟨⟨c0, c1, c2, c3, c4, c5, c6, c7⟩, -⟩ := cells8 HI.out.ins
          by_cases e : yf = -1
          · have HP := Lib.hid (show pickN yf off = off by unfold pickN; rw [if_pos e])
            have t : (yf == -1) = true := by rw [e]; rfl
            clear e
            go_wp2_with fail
            go_meet
            case rel => exact ⟨by rw [HP.out], HI.out⟩
          · have HP := Lib.hid (show pickN yf off = yf by unfold pickN; rw [if_neg e])
            have t : (yf == -1) = false := by rw [beq_eq_false_iff_ne]; exact e
            clear e
            go_wp2_with fail
            go_meet
            case rel => exact ⟨by rw [HP.out], HI.out⟩
        case rest =>
          clear HI
          obtain ⟨rfl, hI⟩ := hcut
          have HI := Lib.hid hI
          clear hI
          go_upto_if 32 with (fail)
          go_cut [10] (fun s10 wx => s10 = .int .i64 (pickN yi imm) ∧ BIn w base (row11 yc yo yz yn yr yd ys yf yi y2 yw) (ins8 op nar reg size dst src off imm) (.slice A L.length c) L wx)
          case first =>
            obtain ⟨⟨c0, c1, c2, c3, c4, c5, c6, c7⟩, -⟩ := cells8 HI.out.ins
            by_cases e : yi = -1
            · have HP := Lib.hid (show pickN yi imm = imm by unfold pickN; rw [if_pos e])
              have t : (yi == -1) = true := by rw [e]; rfl
              clear e
              go_wp2_with fail
              go_meet
              case rel => exact ⟨by rw [HP.out], HI.out⟩
            · have HP := Lib.hid (show pickN yi imm = yi by unfold pickN; rw [if_neg e])
              have t : (yi == -1) = false := by rw [beq_eq_false_iff_ne]; exact e
              clear e
              go_wp2_with fail
              go_meet
              case rel => exact ⟨by rw [HP.out], HI.out⟩
          case rest =>
            clear HI
            obtain ⟨rfl, hI⟩ := hcut
            have HI := Lib.hid hI
            clear hI
            obtain ⟨yc0, -⟩ := cells11j HI.out.row
            obtain ⟨⟨c0, c1, c2, c3, c4, c5, c6, c7⟩, -⟩ := cells8 HI.out.ins
            generalize pickN yd dst = pd at *
            generalize pickN ys src = ps at *
            generalize pickN yf off = po at *
            generalize pickN yi imm = pi at *
            have HBR2 := Lib.hid (show BR = [yc % 256, 16 * ps + pd] ++ lowL po 2 ++ lowL pi 4 ++ (if op = 20 then [0, 0, 0, 0] ++ lowL (imm / 4294967296) 4 else if op = 21 then [0, 0, 0, 0] ++ lowL imm 4 else []) by
              rw [HBR.out, Int.emod_eq_of_lt (a := 16 * ps + pd) (by omega) (by omega)])
            clear HBR
            have HI1 := Lib.hid (HI.out.alloc (.cells #[.int .u8 (yc % 256), .int .u8 (16 * ps + pd)] 5))
            have how := HI1.out.own
            have hby := bytes_at2 wc (yc % 256) (16 * ps + pd)
            have hlen : L.length + 2 ≤ 140737488355328 := by omega
            have hsz : base ≤ (wc.alloc (.cells #[.int .u8 (yc % 256), .int .u8 (16 * ps + pd)] 5)).heap.size := by
              have h1 := HI1.out.big
              omega
            have HO := Lib.hid ho
            have HIm := Lib.hid hi
            have HM := Lib.hid hm
            clear ho hi hm
            go_wp2_with (at_builtin; (refine append_bytes3 Tryd.underlying22 byte_info _ rfl (.tmp 35) (.tmp 44) rfl base _ _ rfl how _ 2 _ [_, _] rfl rfl hby hlen hsz ?_; intro v' w' hown' hB' hg'))
            have HI2 := Lib.hid (HI1.out.grow hown' hB' hg')
            have hlr2 : (L ++ [yc % 256, 16 * ps + pd]).length ≤ 1099511627776 := by simp; omega
            have hb2 : base ≤ w'.heap.size := by have := HI2.out.big; omega
            have HL2 := Lib.hid (rlow_2 po w' base _ _ HO.out hown' hlr2 hb2)
            obtain ⟨A2, m2, k2, rfl, -⟩ := hown'.form'
            clear how hby hlen hsz hown' hB' hg' HI1 HI hlr2 hb2 yc0 c0 c1 c2 c3 c4 c5 c6 c7
            go_wp2_with fail
            go_at_call 106
            refine HL2.out.mono ?_
            rintro e w3 ⟨v3, rfl, hown3, hB3, hg3⟩
            have HI3 := Lib.hid (HI2.out.grow hown3 hB3 hg3)
            have hlr3 : (L ++ [yc % 256, 16 * ps + pd] ++ lowL po 2).length ≤ 1099511627776 := by simp [lowL_len]; omega
            have hb3 : base ≤ w3.heap.size := by have := HI3.out.big; omega
            have HL3 := Lib.hid (rlow_4 pi w3 base _ _ HIm.out hown3 hlr3 hb3)
            obtain ⟨A3, m3, k3, rfl, -⟩ := hown3.form'
            clear hown3 hB3 hg3 HI2 HL2 hlr3 hb3
            go_wp2_with fail
            go_at_call 106
            refine HL3.out.mono ?_
            rintro e w4 ⟨v4, rfl, hown4, hB4, hg4⟩
            have HI4 := Lib.hid (HI3.out.grow hown4 hB4 hg4)
            have hlr4b : (L ++ [yc % 256, 16 * ps + pd] ++ lowL po 2 ++ lowL pi 4).length ≤ 65600 := by simp [lowL_len]; omega
            have hlr4 : (L ++ [yc % 256, 16 * ps + pd] ++ lowL po 2 ++ lowL pi 4).length + 4 ≤ 140737488355328 := by simp [lowL_len]; omega
            have hb4 : base ≤ w4.heap.size := by have := HI4.out.big; omega
            obtain ⟨A4, m4, k4, rfl, -⟩ := hown4.form'
            obtain ⟨⟨c0, c1, c2, c3, c4, c5, c6, c7⟩, -⟩ := cells8 HI4.out.ins
            have HZ4 := Lib.hid (HI4.out.alloc (.cells #[.int .u8 0, .int .u8 0, .int .u8 0, .int .u8 0] 5))
            have how := HZ4.out.own
            have hby := bytes_at4 w4
            have hsz : base ≤ (w4.alloc (.cells #[.int .u8 0, .int .u8 0, .int .u8 0, .int .u8 0] 5)).heap.size := by
              have h1 := HZ4.out.big
              omega
            clear hown4 hB4 hg4 HI3 HL3 hb4
            generalize hMM : L ++ [yc % 256, 16 * ps + pd] ++ lowL po 2 ++ lowL pi 4 = MM at *
            have HMM := Lib.hid hMM
            clear hMM
            by_cases e20 : op = 20
            · have HF := Lib.hid (show L ++ BR = MM ++ [0, 0, 0, 0] ++ lowL (imm / 4294967296) 4 by rw [HBR2.out, if_pos e20, ← HMM.out]; simp only [List.append_assoc])
              have t : (op == 20) = true := by rw [e20]; rfl
              clear e20 HBR2
              go_wp2_with (at_builtin; (refine append_bytes3 Tryd.underlying22 byte_info _ rfl (.tmp 56) (.tmp 57) rfl base _ _ rfl how _ 4 _ [_, _, _, _] rfl rfl hby hlr4 hsz ?_; intro v5 w5 hown5 hB5 hg5; have HI5 := Lib.hid (HZ4.out.grow hown5 hB5 hg5); obtain ⟨⟨q0, q1, q2, q3, q4, q5, q6, q7⟩, -⟩ := cells8 HI5.out.ins; have HO5 := Lib.hid hown5; obtain ⟨A5, m5, k5, rfl, -⟩ := hown5.form'; clear hown5 hB5 hg5 how hby hsz c0 c1 c2 c3 c4 c5 c6 c7))
              have hlr5 : (MM ++ [0, 0, 0, 0]).length ≤ 1099511627776 := by simp; omega
              have hb5 : base ≤ w5.heap.size := by have := HI5.out.big; omega
              have HL5 := Lib.hid (rlow_4 (imm / 4294967296) w5 base _ _ (by have := HM.out; omega) HO5.out hlr5 hb5)
              clear hlr5 hb5 q0 q1 q2 q3 q4 q5 q6 q7
              go_wp2_with fail
              go_at_call 106
              refine HL5.out.mono ?_
              rintro e w6 ⟨v6, rfl, hown6, hB6, hg6⟩
              have HI6 := Lib.hid (HI5.out.grow hown6 hB6 hg6)
              clear hown6 hB6 hg6 HI5 HL5
              go_wp2_with fail
              go_ret
              exact ⟨_, rfl, by rw [HF.out]; exact HI6.out.own, HI6.out.below⟩
            · have t : (op == 20) = false := by rw [beq_eq_false_iff_ne]; exact e20
              by_cases e21 : op = 21
              · have HF := Lib.hid (show L ++ BR = MM ++ [0, 0, 0, 0] ++ lowL imm 4 by rw [HBR2.out, if_neg e20, if_pos e21, ← HMM.out]; simp only [List.append_assoc])
                have t1 : (op == 21) = true := by rw [e21]; rfl
                clear e20 e21 HBR2
                go_wp2_with (at_builtin; (refine append_bytes3 Tryd.underlying22 byte_info _ rfl (.tmp 66) (.tmp 67) rfl base _ _ rfl how _ 4 _ [_, _, _, _] rfl rfl hby hlr4 hsz ?_; intro v5 w5 hown5 hB5 hg5; have HI5 := Lib.hid (HZ4.out.grow hown5 hB5 hg5); obtain ⟨⟨q0, q1, q2, q3, q4, q5, q6, q7⟩, -⟩ := cells8 HI5.out.ins; have HO5 := Lib.hid hown5; obtain ⟨A5, m5, k5, rfl, -⟩ := hown5.form'; clear hown5 hB5 hg5 how hby hsz c0 c1 c2 c3 c4 c5 c6 c7))
                have hlr5 : (MM ++ [0, 0, 0, 0]).length ≤ 1099511627776 := by simp; omega
                have hb5 : base ≤ w5.heap.size := by have := HI5.out.big; omega
                have HL5 := Lib.hid (rlow_4 (imm) w5 base _ _ (by have := HM.out; omega) HO5.out hlr5 hb5)
                clear hlr5 hb5 q0 q1 q2 q3 q4 q5 q6 q7
                go_wp2_with fail
                go_at_call 106
                refine HL5.out.mono ?_
                rintro e w6 ⟨v6, rfl, hown6, hB6, hg6⟩
                have HI6 := Lib.hid (HI5.out.grow hown6 hB6 hg6)
                clear hown6 hB6 hg6 HI5 HL5
                go_wp2_with fail
                go_ret
                exact ⟨_, rfl, by rw [HF.out]; exact HI6.out.own, HI6.out.below⟩
              · have HF := Lib.hid (show L ++ BR = MM by rw [HBR2.out, if_neg e20, if_neg e21, List.append_nil, ← HMM.out]; simp only [List.append_assoc])
                have t1 : (op == 21) = false := by rw [beq_eq_false_iff_ne]; exact e21
                clear e20 e21 HBR2
                go_wp2_with fail
                go_ret
                exact ⟨_, rfl, by rw [HF.out]; exact HI4.out.own, HI4.out.below⟩
end Go.Proofs.YtlodoinmippebaaDoor.Rf
/- Encode of the document's answer for package code: it writes what package code writes. -/
namespace Go.Proofs.YtlodoinmippebaaDoor.Rf
open Go.ChangeShapes Go.WideShapes Go.ChangeAt Go.RowKit
open Cod Bits
set_option linter.unusedVariables false
set_option linter.unusedSimpArgs false

theorem bytes_rng {i : Ins} {y : RRow} (h : Right i) (hy : findR i.op i.nar i.reg i.size = some y) (hr : i.rng) :
    (0 ≤ pickN y.dst i.dst ∧ pickN y.dst i.dst < 16) ∧ (0 ≤ pickN y.src i.src ∧ pickN y.src i.src < 16) ∧ (-9223372036854775808 ≤ pickN y.off i.off ∧ pickN y.off i.off < 9223372036854775808) ∧
    (-9223372036854775808 ≤ pickN y.imm i.imm ∧ pickN y.imm i.imm < 9223372036854775808) ∧ (-9223372036854775808 ≤ i.imm ∧ i.imm < 9223372036854775808) := by
  have G := found_more hy
  have h1 := regs_rng h
  have h2 := h.offr
  have h3 := size_rng h
  have h4 : -9223372036854775808 ≤ i.imm ∧ i.imm < 9223372036854775808 := hr
  refine ⟨?_, ?_, ?_, ?_, h4⟩
  · unfold pickN; rcases G.dst with e | e
    · rw [if_pos e]; exact h1.1
    · rw [if_neg (by omega), e]; decide
  · unfold pickN; rcases G.src with ⟨e, -⟩ | ⟨e, e2⟩
    · rw [if_pos e]; exact h1.2
    · rw [if_neg e, e2]; unfold srcN; split <;> decide
  · unfold pickN; rcases G.off with ⟨e, -⟩ | ⟨e, e2⟩
    · rw [if_pos e]; omega
    · rw [if_neg e, e2]; unfold offN; split
      · decide
      · split <;> omega
  · unfold pickN; rcases G.imm with ⟨e, -⟩ | ⟨e, -, e2⟩
    · rw [if_pos e]; exact h4
    · rw [if_neg e, e2]; unfold immN; split <;> omega
theorem right_found {i : Ins} (h : Right i) : ∃ y, findR i.op i.nar i.reg i.size = some y := by
  cases hy : findR i.op i.nar i.reg i.size with
  | some y => exact ⟨y, rfl⟩
  | none => have := found_none hy; rw [h.ops] at this; cases this
/-- inside Encode's round: the row's own box, the bytes so far -/
structure RowIn (w2 : World) (b : Array Value) (A : Option Addr) (m k : Nat) (L : List Int) (g : Nat) (W : World) : Prop where
  row : Blk W g 125 b
  own : OwnB W w2.heap.size (.slice A m k) L
  below : Below w2.heap.size w2 W
theorem RowIn.drew {w2 : World} {b : Array Value} {A : Option Addr} {m k : Nat} {L : List Int} {g : Nat} {W : World} (h : RowIn w2 b A m k L g W) : RowIn w2 b A m k L g W.drew := ⟨h.row, h.own, belowDrewN h.below 1⟩
theorem _root_.Go.Proofs.YtlodoinmippebaaDoor.OwnB.weaken {w : World} {base base' : Nat} {v : Value} {L : List Int} (h : OwnB w base v L) (hb : base' ≤ base) : OwnB w base' v L := by
  refine ⟨h.1, ?_⟩
  rcases h.2 with h1 | ⟨g, cap, cur, hv, hg, hh, h1⟩
  · exact .inl h1
  · exact .inr ⟨g, cap, cur, hv, Nat.le_trans hb hg, hh, h1⟩
set_option maxRecDepth 100000 in
set_option maxHeartbeats 8000000 in
theorem refEncode_ok (w : World) (A : Option Addr) (n c : Nat) (L : List Ins) (hL : L.length = n) (hn : n ≤ 140737488355328) (h : CodeAt w A L) (hr : ∀ i ∈ L, i.rng) (h0 : (checkL L 0).2 = 0) :
    Calls Tryd.prog 48 #[.slice A n c] w fun e w' => ∃ v, e = .returned (.tuple #[v, .int .i64 0, .int .i64 0]) ∧ OwnB w' w.heap.size v (encB L) ∧ Below w.heap.size w w' := by
  obtain ⟨hok, hlen, h1⟩ := check_ok L 0 h0
  have hn4 : n ≤ 4096 := by have := hlen (by omega); omega
  have HC := Lib.hid (refCheck_any w A n c L hL hn h)
  rw [h0, h1] at HC
  have HA := Lib.hid h
  have HL := Lib.hid hL
  have HR := Lib.hid (fun i (hi : i ∈ L) => (show Right i ∧ i.rng from ⟨(right_iff i).1 (hok i hi), hr i hi⟩))
  clear hok hlen h1 h0 h hL hr
  go_enter Tryd.func48, Tryd.ntmps48
  go_wp2_with fail
  go_at_call 72
  refine HC.out.mono ?_
  rintro e w1 ⟨rfl, hB1⟩
  have HRW := Lib.hid (rows_any w1)
  have HB1 := Lib.hid hB1
  clear HC hB1
  go_wp2_with fail
  go_at_call 69
  refine HRW.out.mono ?_
  rintro e w2 ⟨v, rfl, hown, hB2⟩
  obtain ⟨Ar, cr, rfl, hra⟩ := hown.rowsAt
  rw [rowsL_len]
  have HRA := Lib.hid hra
  have HB2 := Lib.hid (HB1.out.trans (hB2.mono HB1.out.size))
  clear hown hra hB2 HRW HB1
  go_wp2_with fail
  go_loopw [8, 9, 10, 11] (fun v i y ok wr => ∃ j : Nat, j ≤ n ∧ i = .int .i64 j ∧ OwnB wr w2.heap.size v (encB (L.take j)) ∧ Below w2.heap.size w2 wr) (fun _ i _ _ _ => (n - intOf i).toNat)
  case atStart => exact ⟨0, Nat.zero_le _, rfl, OwnB.nil _ _, Below.refl _ _⟩
  case round =>
    obtain ⟨j, hj, rfl, hown, hB⟩ := hrel
    by_cases hlt : j < n
    · have hlt' : (j : Int) < n := by omega
      obtain ⟨b, off, rfl, hbl, hc⟩ := HA.out (by have := HL.out; omega)
      obtain ⟨i, hi⟩ : ∃ i, L[j]? = some i := ⟨L[j]'(by have := HL.out; omega), List.getElem?_eq_getElem _⟩
      have hbw := HB2.out.trans (hB.mono HB2.out.size)
      have hx := (hc j i hi).below hbw hbl
      obtain ⟨hrt, hrng⟩ := HR.out i (List.mem_of_getElem? hi)
      obtain ⟨y, hy⟩ := right_found hrt
      obtain ⟨hp1, hp2, hp3, hp4, hp5⟩ := bytes_rng hrt hy hrng
      have hbr := bytes_ref hrt hy
      have htk : encB (L.take (j + 1)) = encB (L.take j) ++ insB i := by
        rw [List.take_add_one, hi, encB_append]
        simp [encB]
      rw [← hbr] at htk
      have hlen : (encB (L.take j)).length ≤ 65536 := by
        have := encB_length (L.take j)
        have := List.length_take_le j L
        omega
      have HTK := Lib.hid htk
      have HHC := Lib.hid hc
      have HLJ := Lib.hid hi
      clear hc hi hrt hrng hbr htk
      obtain ⟨op, nar, reg, size, dst, src, io, imm⟩ := i
      obtain ⟨rc, ro, rz, rn, rr, rd, rs, rf, ri, r2, rw_⟩ := y
      simp only at hy hp1 hp2 hp3 hp4 hp5
      have HFN := Lib.hid (find_any wr Ar 139 cr rowsL rowsL_len (by decide) (HRA.out.below hB) op nar reg size dst src io imm)
      have HBY := Lib.hid (fun w3 v L' => rbytes_any rc ro rz rn rr rd rs rf ri r2 rw_ op nar reg size dst src io imm hp1 hp2 hp3 hp4 hp5 w3 w2.heap.size v L')
      have HFE := Lib.hid (show rowsL.find? (fun r => r.fitsI op nar reg size) = some ⟨rc, ro, rz, rn, rr, rd, rs, rf, ri, r2, rw_⟩ from hy)
      have HO := Lib.hid hown
      have HB := Lib.hid hB
      have HX := Lib.hid hx
      obtain ⟨x0, x1, x2, x3, x4, x5, x6, x7⟩ := hx
      simp only at x0 x1 x2 x3 x4 x5 x6 x7
      obtain ⟨Av, mv, kv, rfl, -⟩ := hown.form'
      generalize bytesR ⟨rc, ro, rz, rn, rr, rd, rs, rf, ri, r2, rw_⟩ ⟨op, nar, reg, size, dst, src, io, imm⟩ = BR at *
      clear hy hp1 hp2 hp3 hp4 hp5 hown hB hbw
      go_wp2_with fail
      go_at_call 73
      refine HFN.out.mono ?_
      rintro e w3 ⟨he, hB3⟩
      rw [HFE.out] at he
      have he' : e = .returned (.tuple #[.agg (row11 rc ro rz rn rr rd rs rf ri r2 rw_), .bool true]) := he
      subst he'
      have HI4 := Lib.hid (show RowIn w2 (row11 rc ro rz rn rr rd rs rf ri r2 rw_) Av mv kv (encB (L.take j)) w3.heap.size (w3.alloc (.cells (row11 rc ro rz rn rr rd rs rf ri r2 rw_) 125)) from
        ⟨Blk.new _ _ _, (HO.out.below hB3).alloc _, (HB.out.trans (hB3.mono HB.out.size)).trans ((below_box w3 _).mono (Nat.le_trans HB.out.size hB3.size))⟩)
      have hb4 := HB2.out.trans (HI4.out.below.mono HB2.out.size)
      have HX4 := Lib.hid ((HHC.out j _ HLJ.out).below hb4 hbl)
      clear HFN HX HO HB hB3 HFE he x0 x1 x2 x3 x4 x5 x6 x7 hb4
      go_upto_region 10 with (fail)
      generalize w3.alloc (.cells (row11 rc ro rz rn rr rd rs rf ri r2 rw_) 125) = W4 at *
      generalize w3.heap.size = g at *
      obtain ⟨x0, x1, x2, x3, x4, x5, x6, x7⟩ := HX4.out
      obtain ⟨y0, y1, y2, y3, y4, y5, y6, y7, y8, y9, y10⟩ := cells11 HI4.out.row
      simp only at x0 x1 x2 x3 x4 x5 x6 x7
      go_still_tail 6, (by kernel_rfl)
      refine wpList_drewC ?_
      have HI5 := Lib.hid (HI4.out.drew)
      clear HI4 HX4 HHC x0 x1 x2 x3 x4 x5 x6 x7 y0 y1 y2 y3 y4 y5 y6 y7 y8 y9 y10
      generalize W4.drew = W5 at *
      have HB5 := Lib.hid (HBY.out W5 _ _ HI5.out.own hlen HI5.out.below.size)
      have HI5b := Lib.hid HI5.out.below
      clear HBY HI5
      go_wp2_with fail
      go_at_call 74
      refine HB5.out.mono ?_
      rintro e w6 ⟨v6, rfl, hown6, hB6⟩
      have hb6 := HI5b.out.trans hB6
      clear HB5 hB6
      go_wp2_with fail
      go_roundw
      case rel => exact ⟨j + 1, by omega, by go_num, by rw [HTK.out]; exact hown6, hb6⟩
      case measure => simp [intOf]; omega
    · obtain rfl : j = n := by omega
      have hjn : decide ((j : Int) < j) = false := decide_eq_false (by omega)
      have htk : L.take j = L := List.take_of_length_le (by have := HL.out; omega)
      rw [htk] at hown
      go_wp2_with fail
      go_ret3
      exact ⟨_, rfl, hown.weaken HB2.out.size, HB2.out.trans (hB.mono HB2.out.size)⟩
set_option maxHeartbeats 4000000 in
theorem refEncode_no (w : World) (A : Option Addr) (n c : Nat) (L : List Ins) (hL : L.length = n) (hn : n ≤ 140737488355328) (h : CodeAt w A L) (h0 : (checkL L 0).2 ≠ 0) :
    Calls Tryd.prog 48 #[.slice A n c] w fun e w' => e = .returned (.tuple #[.slice none 0 0, .int .i64 (checkL L 0).1, .int .i64 (checkL L 0).2]) ∧ Below w.heap.size w w' := by
  have HC := Lib.hid (refCheck_any w A n c L hL hn h)
  generalize (checkL L 0).1 = k0 at *
  generalize (checkL L 0).2 = k1 at *
  have t0 : (k1 != 0) = true := by rw [bne_iff_ne]; exact h0
  clear h0 h hL
  go_enter Tryd.func48, Tryd.ntmps48
  go_wp2_with fail
  go_at_call 72
  refine HC.out.mono ?_
  rintro e w1 ⟨rfl, hB1⟩
  clear HC
  go_wp2_with fail
  go_ret3
  exact ⟨rfl, hB1⟩
end Go.Proofs.YtlodoinmippebaaDoor.Rf
