/- Texts in one: PkA PkB PkC PkD PkE PkF PkG PkH PkI PkJ PkK. -/
import Derived.Test.YtlodoinmippebaaDoorDeRow
import Derived.Test.YtlodoinmippebaaDoorPkM
import Derived.Lib.EndianBits
import Derived.Lib.AppendStr
/- Package pack: what lies in memory; a number put behind bytes; a number read. -/
namespace Go.Proofs.YtlodoinmippebaaDoor.Pak
open Go.ChangeShapes Go.WideShapes Go.ChangeAt Go.RowKit
set_option linter.unusedVariables false
set_option linter.unusedSimpArgs false
set_option maxRecDepth 100000
def RetB (w : World) (v : Value) (e : Ending) (w' : World) : Prop := e = .returned v ∧ Below w.heap.size w w'
theorem below_box (w : World) (o : Obj) : Below w.heap.size w (w.alloc o) := (Below.refl _ _).alloc (Nat.le_refl _) _
theorem u8_wrap (n : Int) : IntKind.u8.wrap n = n % 256 := by simp [IntKind.wrap, IntKind.bits, IntKind.signed]
theorem append_bytesG {P : Program} (hu : P.underlying 22 = some (.slice 5)) (hinf : (P.info? 5).map (fun i => (i.zero, i.size, i.bytes)) = some (some (.int .u8 0), 1, 1)) (w : World) {ops : Array Oper} {rest : List Oper} {o : Oper} {a : Act} {Q : Exit → Act → World → Prop} (hgd : o.guard = none) (s x : Operand)
    (ho : o.op = .call { callee := .builtin .append, args := #[s, x], argTypes := #[22, 22] })
    (base : Nat) (v : Value) (L : List Int) (hs : a.eval s = v) (hown : OwnB w base v L)
    (A : Option Addr) (m c : Nat) (M : List Int) (hx : a.eval x = .slice A m c) (hm : M.length = m) (hr : BytesAt w A M)
    (hlen : L.length + m ≤ 140737488355328) (hbase : base ≤ w.heap.size)
    (h : ∀ v' w', OwnB w' base v' (L ++ M) → w.grownBy w' v.ownBlock → wpList P ops Q rest (a.put o.dst v') w') : wpList P ops Q (o :: rest) a w := by
  subst hm
  obtain ⟨i0, hi, hz0, hz1, hz2⟩ := info_parts hinf
  refine wpList_append_any w hgd s x 22 ho base 5 i0 (.int .u8 0) 1 1 hu hi hz0 hz1 hz2 rfl (by decide) v L.length _ hs hown w.heap.size A M.length c _ hx hr.reads
    (fun u hu => ?_) (by unfold maxLen; omega) (by omega) hbase ?_
  · simp only [List.mem_map] at hu
    obtain ⟨z, _, rfl⟩ := hu
    rfl
  · intro v' w' h1 h2 _
    refine h v' w' ?_ h2
    unfold OwnB
    rw [List.length_append, List.map_append]
    exact h1
/-- all below B is as it was, and every variable that is no row of bytes -/
structure UT (B : Nat) (w w' : World) : Prop where
  below : Below B w w'
  blk : ∀ k t cs, Blk w k t cs → t ≠ 5 → Blk w' k t cs
theorem UT.refl (B : Nat) (w : World) : UT B w w := ⟨Below.refl _ _, fun _ _ _ h _ => h⟩
theorem UT.trans {B : Nat} {a b c : World} (h : UT B a b) (k : UT B b c) : UT B a c := ⟨h.below.trans k.below, fun i t cs hb h1 => k.blk i t cs (h.blk i t cs hb h1) h1⟩
theorem UT.of_below {B : Nat} {w w' : World} (h : Below w.heap.size w w') (hB : B ≤ w.heap.size) : UT B w w' := ⟨h.mono hB, fun k t cs hb _ => hb.below h hb.lt⟩
theorem UT.fb {B : Nat} {w w' : World} (h : UT B w w') {g : Nat} {t : TypeId} {n : Nat} {f : Nat → Value} (hb : FB w g t n f) (h1 : t ≠ 5) : FB w' g t n f := h.blk g t _ hb h1
theorem UT.mono {B B' : Nat} {w w' : World} (h : UT B w w') (hB : B' ≤ B) : UT B' w w' := ⟨h.below.mono hB, h.blk⟩
theorem UT.drewN {B : Nat} {w w' : World} (h : UT B w w') (n : Nat) : UT B w (w'.drewN n) := ⟨below_drewN h.below n, h.blk⟩
theorem UT.grown {base : Nat} {w w' : World} {v : Value} {L : List Int} (hg : w.grownBy w' v.ownBlock) (hown : OwnB w base v L) (hbase : base ≤ w.heap.size) : UT base w w' :=
  ⟨(Below.refl base _).grown hg hbase fun k hk => (World.ownsRow.lt hown k hk).1, fun k t cs hb h1 => (hg.block k hb.lt (fun e => own_blk_ne hown hb (fun e2 => h1 e2.symm) e.symm)).trans hb⟩
theorem ownB_up {w w' : World} {base : Nat} {v : Value} {L : List Int} (h : OwnB w base v L) (hb : Below w.heap.size w w') : OwnB w' base v L := own_keep h fun b _ hlt => hb.block b hlt
theorem bytes_box (w : World) (x : Int) : BytesAt (w.alloc (.cells #[.int .u8 x] 5)) (some ⟨w.heap.size, 0, none⟩) [x] := (ByteBlk.new w [x]).at_
def PutEnd (w : World) (base : Nat) (L : List Int) (e : Ending) (w' : World) : Prop := ∃ v', e = .returned v' ∧ OwnB w' base v' L ∧ UT base w w'
set_option maxHeartbeats 1000000 in
theorem put_any (w : World) (base : Nat) (v : Value) (L : List Int) (n : Int) (k : Nat) (hown : OwnB w base v L) (hbase : base ≤ w.heap.size) (hl : L.length + k ≤ 1099511627776) :
    Calls Tryd.prog 86 #[v, .int .i64 n, .int .i64 k] w (PutEnd w base (L ++ le n k)) := by
  have HO := Lib.hid hown
  have HL := Lib.hid hl
  have HS := Lib.hid hbase
  have hk44 : k ≤ 1099511627776 := by omega
  clear hown hbase hl
  go_enter Tryd.func86, Tryd.ntmps86
  go_wp2_with fail
  go_loopw [0, 1, 8, 9, 10, 11, 12, 13, 14, 15, 16, 17] (fun a0 a1 a8 _ _ _ _ _ _ _ _ _ wr => ∃ (j : Nat) (m : Int) (M : List Int), a1 = .int .i64 m ∧ a8 = .int .i64 j ∧ j ≤ k ∧ Hid (M ++ le m (k - j) = L ++ le n k) ∧ OwnB wr base a0 M ∧ UT base w wr) (fun _ _ a8 _ _ _ _ _ _ _ _ _ _ => (k - (intOf a8)).toNat)
  case atStart => exact ⟨0, n, L, rfl, rfl, Nat.zero_le _, Lib.hid rfl, HO.out, UT.refl _ _⟩
  case round =>
    obtain ⟨j, m, M, rfl, rfl, hj, HE, hO, hU⟩ := hrel
    have HOM := Lib.hid hO
    have HU := Lib.hid hU
    have HSZ := Lib.hid (Nat.le_trans HS.out hU.below.size)
    clear hO hU HO
    by_cases hlt : j < k
    · have hlt' : (j : Int) < k := by omega
      have hM8 := u8_wrap m
      have hbe := below_box wr (.cells #[.int .u8 (m % 256)] 5)
      have HOB := Lib.hid (ownB_up HOM.out hbe)
      have HBX := Lib.hid (bytes_box wr (m % 256))
      have HUB := Lib.hid (HU.out.trans (UT.of_below hbe HSZ.out))
      have HS2 := Lib.hid (Nat.le_trans HSZ.out hbe.size)
      have HML := Lib.hid (show M.length + 1 ≤ 140737488355328 by
        have h1 := congrArg List.length HE.out
        simp only [List.length_append, le_len] at h1
        have := HL.out
        omega)
      have HE2 := Lib.hid (show (M ++ [m % 256]) ++ le (m / 256) (k - (j + 1)) = L ++ le n k by
        rw [← HE.out, show k - j = (k - (j + 1)) + 1 by omega, List.append_assoc]; rfl)
      obtain ⟨A, c, rfl, -⟩ := HOM.out.form
      obtain ⟨q, hq⟩ : ∃ q, q = M.length := ⟨_, rfl⟩
      rw [← hq] at HOB HOM ⊢
      have HQ := Lib.hid hq
      clear hbe HOM HE hq HU HSZ
      go_wp2_with (at_builtin; (refine append_bytesG Tryd.underlying22 byte_info _ rfl (.tmp 10) (.tmp 13) rfl base _ M rfl HOB.out _ 1 1 [m % 256] rfl rfl HBX.out HML.out HS2.out ?_; intro v9 w9 hown9 hg9; have hUT := UT.grown hg9 HOB.out HS2.out))
      go_roundw
      case rel => exact ⟨j + 1, m / 256, M ++ [m % 256], rfl, by go_num, by omega, HE2, hown9, HUB.out.trans hUT⟩
      case measure => simp [intOf]; omega
    · obtain rfl : j = k := by omega
      have HE2 := Lib.hid (show M = L ++ le n j by rw [← HE.out, Nat.sub_self]; exact (List.append_nil _).symm)
      clear HE hlt
      go_wp2_with fail
      go_ret
      exact ⟨_, rfl, by rw [← HE2.out]; exact HOM.out, HU.out⟩
end Go.Proofs.YtlodoinmippebaaDoor.Pak
/- Package pack: a number read. -/
namespace Go.Proofs.YtlodoinmippebaaDoor.Pak
open Go.ChangeShapes Go.WideShapes Go.ChangeAt Go.RowKit
set_option linter.unusedVariables false
set_option linter.unusedSimpArgs false
set_option maxRecDepth 100000
theorem num_valB : ∀ L : List Int, num L = valB L
  | [] => rfl
  | b :: t => by show b + 256 * num t = b + 256 * valB t; rw [num_valB t]
theorem byt_of {L : List Int} (h : Bytes L) : Byt L := fun x hx => h x hx
theorem i64_63 (n : Int) (h0 : 0 ≤ n) (h1 : n < 2 ^ 63) : IntKind.i64.wrap n = n := IntWalk.i64_in _ (by rw [show (2 : Int) ^ 63 = 9223372036854775808 from rfl] at h1; omega)
theorem w64_in (x : Int) (h : 0 ≤ x ∧ x < 9223372036854775808) : wrap64 x = x := by unfold wrap64; omega
theorem or64 (v x : Int) (j : Nat) (hj : j < 4) (hv : 0 ≤ v ∧ v < 2 ^ (8 * j)) (hx : 0 ≤ x ∧ x < 256) : bits BinOp.or IntKind.i64 v (wrap64 (wrap64 x * 2 ^ (8 * j))) = v + 2 ^ (8 * j) * x := by
  obtain ⟨h0, h1⟩ := hx
  have hw : wrap64 x = x := w64_in _ (by omega)
  have hle : (2 : Int) ^ (8 * j) ≤ 2 ^ 24 := pow_le_of (by omega)
  have hp : (0 : Int) < 2 ^ (8 * j) := pow_pos' _
  rw [show (2 : Int) ^ 24 = 16777216 from rfl] at hle
  rw [hw]
  have hb : x * 2 ^ (8 * j) ≤ 255 * 2 ^ (8 * j) := Int.mul_le_mul_of_nonneg_right (by omega) (Int.le_of_lt hp)
  have hnn : 0 ≤ x * 2 ^ (8 * j) := Int.mul_nonneg h0 (Int.le_of_lt hp)
  rw [w64_in _ (by omega), bits_join_low .i64 63 (by decide) i64_63 (8 * j) v (x * 2 ^ (8 * j)) hv.1 hv.2 (by rw [show (2 : Int) ^ 63 = 9223372036854775808 from rfl]; omega) hnn (Int.mul_emod_left _ _) (by rw [show (2 : Int) ^ 63 = 9223372036854775808 from rfl]; omega), Int.mul_comm]
set_option maxHeartbeats 1000000 in
theorem number_any (w : World) (A : Option Addr) (n c : Nat) (L : List Int) (hL : L.length = n) (hn : n ≤ 4) (hB : Bytes L) (h : BytesAt w A L) :
    Calls Tryd.prog 77 #[.slice A n c] w fun e w' => e = .returned (.int .i64 (num L)) ∧ w = w' := by
  have HL := Lib.hid hL
  have HB := Lib.hid hB
  have HA := Lib.hid h
  clear hL h hB
  go_enter Tryd.func77, Tryd.ntmps77
  go_wp2_with fail
  go_loopw [3, 4, 5, 8, 9, 10, 11, 12, 13, 14, 15, 16, 17, 18, 19, 20] (fun a3 _ _ a8 _ _ _ _ _ _ _ _ _ _ _ _ wr => ∃ (j : Nat), a3 = .int .i64 (valB (L.take j)) ∧ a8 = .int .i64 j ∧ j ≤ n ∧ w = wr) (fun _ _ _ a8 _ _ _ _ _ _ _ _ _ _ _ _ _ => (n - (intOf a8)).toNat)
  case atStart => exact ⟨0, rfl, rfl, Nat.zero_le _, rfl⟩
  case round =>
    obtain ⟨j, rfl, rfl, hj, rfl⟩ := hrel
    by_cases hlt : j < n
    · have hlt' : (j : Int) < n := by omega
      obtain ⟨b, off, rfl, hbl, hcell⟩ := HA.out (by have := HL.out; omega)
      have x0 := hcell j (by have := HL.out; omega)
      have HT := Lib.hid (take_step L j (by have := HL.out; omega))
      have hy := byt_at (byt_of HB.out) j
      have hr := valB_rng (byt_take (byt_of HB.out) j)
      rw [List.length_take, Nat.min_eq_left (by have := HL.out; omega)] at hr
      have HY := Lib.hid hy
      have HR := Lib.hid hr
      clear hcell hy hr
      generalize L[j]?.getD 0 = x at *
      generalize valB (L.take j) = v at *
      go_wp2_with fail
      rw [or64 v x j (by omega) HR.out HY.out]
      go_roundw
      case rel => exact ⟨j + 1, by rw [HT.out], by go_num, by omega, trivial⟩
      case measure => simp [intOf]; omega
    · obtain rfl : j = n := by omega
      have HV := Lib.hid (show valB (L.take j) = num L by rw [num_valB, List.take_of_length_le (by have := HL.out; omega)])
      clear hlt HA
      go_wp2_with fail
      go_ret
      exact ⟨by rw [HV.out]; rfl, rfl⟩
theorem u32_wrap (n : Int) : IntKind.u32.wrap n = n % 4294967296 := by simp [IntKind.wrap, IntKind.bits, IntKind.signed]
theorem xor_u32 (a b : Nat) (ha : a < 4294967296) (hb : b < 4294967296) : bits BinOp.xor IntKind.u32 (a : Int) (b : Int) = ((a ^^^ b : Nat) : Int) := by
  show IntKind.u32.wrap (((BitVec.ofInt 32 (a : Int) ^^^ BitVec.ofInt 32 (b : Int)).toNat : Nat) : Int) = _
  rw [BitVec.toNat_xor, BitVec.toNat_ofInt, BitVec.toNat_ofInt, u32_wrap]
  have e1 : ((a : Int) % ((2 ^ 32 : Nat) : Int)).toNat = a := by omega
  have e2 : ((b : Int) % ((2 ^ 32 : Nat) : Int)).toNat = b := by omega
  rw [e1, e2]
  have h := Nat.xor_lt_two_pow (n := 32) ha hb
  omega
theorem step_eq (s : Nat) (x : Int) (hs : s < 4294967296) (hx : 0 ≤ x ∧ x < 256) : bits BinOp.xor IntKind.u32 (s : Int) (x % 4294967296) * 16777619 % 4294967296 = (stepS s x : Nat) := by
  have e1 : x % 4294967296 = (x.toNat : Int) := by omega
  rw [e1, xor_u32 _ _ hs (by omega)]
  unfold stepS
  omega
set_option maxHeartbeats 1000000 in
theorem sum_any (w : World) (A : Option Addr) (n c : Nat) (L : List Int) (hL : L.length = n) (hn : n ≤ 1099511627776) (hB : Bytes L) (h : BytesAt w A L) :
    Calls Tryd.prog 78 #[.slice A n c] w fun e w' => e = .returned (.int .u32 (sumN L)) ∧ w = w' := by
  have HL := Lib.hid hL
  have HB := Lib.hid hB
  have HA := Lib.hid h
  clear hL h hB
  go_enter Tryd.func78, Tryd.ntmps78
  go_wp2_with fail
  go_loopw [3, 5, 8, 9, 10, 11, 12, 13, 14, 15, 16, 17] (fun a3 _ a8 _ _ _ _ _ _ _ _ _ wr => ∃ (j s : Nat), a3 = .int .u32 s ∧ a8 = .int .i64 j ∧ j ≤ n ∧ s < 4294967296 ∧ Hid (sumF s (L.drop j) = sumN L) ∧ w = wr) (fun _ _ a8 _ _ _ _ _ _ _ _ _ _ => (n - (intOf a8)).toNat)
  case atStart => exact ⟨0, 2166136261, rfl, rfl, Nat.zero_le _, by decide, Lib.hid rfl, rfl⟩
  case round =>
    obtain ⟨j, s, rfl, rfl, hj, hs, HE, rfl⟩ := hrel
    by_cases hlt : j < n
    · have hlt' : (j : Int) < n := by omega
      obtain ⟨b, off, rfl, hbl, hcell⟩ := HA.out (by have := HL.out; omega)
      have x0 := hcell j (by have := HL.out; omega)
      have HY := Lib.hid (byt_at (byt_of HB.out) j)
      have hdr : L.drop j = (L[j]?.getD 0) :: L.drop (j + 1) := by
        have h1 : j < L.length := by have := HL.out; omega
        rw [List.getElem?_eq_getElem h1]; exact List.drop_eq_getElem_cons h1
      rw [hdr] at HE
      clear hcell hdr
      generalize L[j]?.getD 0 = x at *
      go_wp2_with fail
      rw [step_eq s x hs HY.out]
      go_roundw
      case rel => exact ⟨j + 1, stepS s x, rfl, by go_num, by omega, stepS_lt _ _, HE, trivial⟩
      case measure => simp [intOf]; omega
    · obtain rfl : j = n := by omega
      have HV := Lib.hid (show s = sumN L by rw [← HE.out, List.drop_of_length_le (by have := HL.out; omega)]; rfl)
      clear hlt HA HE
      go_wp2_with fail
      go_ret
      exact ⟨by rw [← HV.out]; rfl, rfl⟩
end Go.Proofs.YtlodoinmippebaaDoor.Pak
/- Package pack: the sizes. -/
namespace Go.Proofs.YtlodoinmippebaaDoor.Pak
open Go.ChangeShapes Go.WideShapes Go.ChangeAt Go.RowKit
set_option linter.unusedVariables false
set_option linter.unusedSimpArgs false
set_option maxRecDepth 100000
theorem ret_i64 {a b : Int} (h : a = b) : Ending.returned (.int .i64 a) = .returned (.int .i64 b) := by rw [h]
theorem ret_bool {a b : Bool} (h : a = b) : Ending.returned (.bool a) = .returned (.bool b) := by rw [h]
def okN (n : Int) : Bool := decide (1 ≤ n) && decide (n ≤ 64)
theorem rows_any (n : Int) (w : World) : Calls Tryd.prog 89 #[.int .i64 n] w fun e w' => e = .returned (.bool (okN n)) ∧ w = w' := by
  go_enter Tryd.func89, Tryd.ntmps89
  unfold okN
  cases h1 : decide (1 ≤ n)
  · go_wp2_with fail
    go_ret
    exact ⟨rfl, rfl⟩
  · cases h2 : decide (n ≤ 64)
    · go_wp2_with fail
      go_ret
      exact ⟨rfl, rfl⟩
    · go_wp2_with fail
      go_ret
      exact ⟨rfl, rfl⟩
theorem wide_any (n : Int) (w : World) : Calls Tryd.prog 90 #[.int .i64 n] w fun e w' => e = .returned (.bool (okN n)) ∧ w = w' := by
  go_enter Tryd.func90, Tryd.ntmps90
  unfold okN
  cases h1 : decide (1 ≤ n)
  · go_wp2_with fail
    go_ret
    exact ⟨rfl, rfl⟩
  · cases h2 : decide (n ≤ 64)
    · go_wp2_with fail
      go_ret
      exact ⟨rfl, rfl⟩
    · go_wp2_with fail
      go_ret
      exact ⟨rfl, rfl⟩
def tabF (x : Int × Int) : Nat → Value
  | 0 => .int .i64 x.1
  | _ => .int .i64 x.2
theorem okT_eq (x : Int × Int) : okT x = (okN x.1 && okN x.2) := rfl
set_option maxHeartbeats 1000000 in
theorem odd_any (x : Int × Int) (w : World) : Calls Tryd.prog 61 #[.agg (arr 2 (tabF x))] w (RetB w (.bool (!okT x))) := by
  obtain ⟨r, d⟩ := x
  obtain ⟨T, hT⟩ : ∃ T, T = tabF (r, d) := ⟨_, rfl⟩
  rw [← hT]
  have HTT := Lib.hid hT
  clear hT
  rw [okT_eq]
  go_enter Tryd.func61, Tryd.ntmps61
  go_upto_region 1 with (refine wpList_box_seg rfl _ (.tmp 0) rfl 2 T rfl ?_; intro w1 h1 hB1 hs1)
  obtain ⟨gb, hgb⟩ : ∃ gb, gb = w.heap.size := ⟨_, rfl⟩
  rw [← hgb] at h1 ⊢
  have x0 : w1.cell? ⟨gb, 0, none⟩ = some (.int .i64 r) := by rw [h1.cell 0 (by decide), HTT.out]; rfl
  have x1 : w1.cell? ⟨gb, 1, none⟩ = some (.int .i64 d) := by rw [h1.cell 1 (by decide), HTT.out]; rfl
  have HB := Lib.hid hB1
  clear h1 hB1 hs1 hgb HTT
  cases e1 : okN r
  · go_wp2_with (first | (go_at_call 89; refine (rows_any r _).mono ?_; rintro e u ⟨rfl, rfl⟩; rw [e1]) | (go_at_call 90; refine (wide_any d _).mono ?_; rintro e u ⟨rfl, rfl⟩))
    go_ret
    exact ⟨by rw [e1]; rfl, HB.out⟩
  · cases e2 : okN d
    · go_wp2_with (first | (go_at_call 89; refine (rows_any r _).mono ?_; rintro e u ⟨rfl, rfl⟩; rw [e1]) | (go_at_call 90; refine (wide_any d _).mono ?_; rintro e u ⟨rfl, rfl⟩; rw [e2]))
      go_ret
      exact ⟨by rw [e1, e2]; rfl, HB.out⟩
    · go_wp2_with (first | (go_at_call 89; refine (rows_any r _).mono ?_; rintro e u ⟨rfl, rfl⟩; rw [e1]) | (go_at_call 90; refine (wide_any d _).mono ?_; rintro e u ⟨rfl, rfl⟩; rw [e2]))
      go_ret
      exact ⟨by rw [e1, e2]; rfl, HB.out⟩
def idxF {α : Type} (p : α → Bool) (j : Nat) : List α → Int
  | [] => -1
  | x :: t => if p x = true then (j : Int) else idxF p (j + 1) t
theorem idxF_any {α : Type} (p : α → Bool) : ∀ (l : List α) (j : Nat), decide (0 ≤ idxF p j l) = l.any p
  | [], j => rfl
  | x :: t, j => by
    unfold idxF
    cases h : p x
    · rw [if_neg (by simp), idxF_any p t, List.any_cons, h, Bool.false_or]
    · rw [if_pos rfl, List.any_cons, h, Bool.true_or]
      exact decide_eq_true (by omega)
theorem drop_cons {α : Type} {l : List α} {j : Nat} (h : j < l.length) : ∃ a, l[j]? = some a ∧ l.drop j = a :: l.drop (j + 1) := ⟨l[j], List.getElem?_eq_getElem h, List.drop_eq_getElem_cons h⟩
theorem sizeTab : (Tryd.prog.info? 69).map (·.size) = some 2 := by kernel_rfl
theorem size_up {w w' : World} {B : Nat} (h : Below B w w') (hb : B ≤ w.heap.size) : B ≤ w'.heap.size := Nat.le_trans hb h.size
set_option maxHeartbeats 2000000 in
theorem index_tab (w : World) (A : Option Addr) (n c : Nat) (T : List (Int × Int)) (hL : T.length = n) (hn : n ≤ 1152921504606846976) (hA : RowsAt w A 2 tabF T) (K : Nat) (p : Int × Int → Bool)
    (hen : ∀ (a : Array Value) (W : World), (callFunc K a).run Tryd.prog W = .ok (.enter K a) W)
    (hf : ∀ x W, Calls Tryd.prog K #[.agg (arr 2 (tabF x))] W (RetB W (.bool (p x)))) :
    Calls Tryd.prog 88 #[.slice A n c, .func (.func K) #[] #[]] w (RetB w (.int .i64 (idxF p 0 T))) := by
  have HL := Lib.hid hL
  have HA := Lib.hid hA
  have HF := Lib.hid hf
  clear hL hA hf
  go_enter Tryd.func88, Tryd.ntmps88
  go_wp2_with fail
  go_loopw [5, 8, 9, 10, 11, 12, 13, 14, 15, 16, 18] (fun _ a8 _ _ _ _ _ _ _ _ _ wr => ∃ (j : Nat), a8 = .int .i64 j ∧ j ≤ n ∧ Hid (idxF p j (T.drop j) = idxF p 0 T) ∧ RowsAt wr A 2 tabF T ∧ Below w.heap.size w wr) (fun _ a8 _ _ _ _ _ _ _ _ _ _ => (n - (intOf a8)).toNat)
  case atStart => exact ⟨0, rfl, Nat.zero_le _, Lib.hid rfl, HA.out, Below.refl _ _⟩
  case round =>
    obtain ⟨j, rfl, hj, HE, hT, hB⟩ := hrel
    have HT := Lib.hid hT
    have HB := Lib.hid hB
    clear hT hB HA
    by_cases hlt : j < n
    · have hlt' : (j : Int) < n := by omega
      obtain ⟨x, hx, hdr⟩ := drop_cons (l := T) (j := j) (by have := HL.out; omega)
      rw [hdr] at HE
      obtain ⟨b, off, rfl, hbl, hcell⟩ := HT.out (by have := HL.out; omega)
      have HX := Lib.hid (hcell j x hx)
      clear hdr hcell hx
      obtain ⟨X, hX⟩ : ∃ X, X = tabF x := ⟨_, rfl⟩
      rw [← hX] at HX
      have HXX := Lib.hid hX
      clear hX
      go_wp2_with (refine wpList_load_cells rfl 69 _ rfl b (off + j * 2) rfl 2 X _ HX.out Tryd.underlying69 rfl sizeTab ?_)
      rw [HXX.out]
      refine (HF.out x wr).mono ?_
      rintro e w2 ⟨rfl, hB2⟩
      have HB2 := Lib.hid (HB.out.trans (hB2.mono HB.out.size))
      have HT2 := Lib.hid (HT.out.below hB2)
      have HE' := HE.out
      change (if p x = true then (j : Int) else idxF p (j + 1) (T.drop (j + 1))) = idxF p 0 T at HE'
      clear hB2 HX HB HT HE
      cases hp : p x
      · rw [hp, if_neg (by simp)] at HE'
        have HE2 := Lib.hid HE'
        clear HE' hp
        go_wp2_with fail
        go_roundw
        case rel => exact ⟨j + 1, by go_num, by omega, HE2, HT2.out, HB2.out⟩
        case measure => simp [intOf]; omega
      · rw [hp, if_pos rfl] at HE'
        have HE2 := Lib.hid HE'
        clear HE' hp
        go_wp2_with fail
        go_ret
        exact ⟨ret_i64 HE2.out, HB2.out⟩
    · obtain rfl : j = n := by omega
      have HE2 := Lib.hid (show -1 = idxF p 0 T by rw [← HE.out, List.drop_of_length_le (by have := HL.out; omega)]; rfl)
      clear hlt HE
      go_wp2_with fail
      go_ret
      exact ⟨ret_i64 HE2.out, HB.out⟩
set_option maxHeartbeats 2000000 in
theorem contains_any (w : World) (A : Option Addr) (n c : Nat) (T : List (Int × Int)) (hL : T.length = n) (hn : n ≤ 1152921504606846976) (hA : RowsAt w A 2 tabF T) :
    Calls Tryd.prog 60 #[.slice A n c, .func (.func 61) #[] #[]] w (RetB w (.bool (T.any fun x => !okT x))) := by
  rw [← idxF_any _ T 0]
  go_enter Tryd.func60, Tryd.ntmps60
  go_wp2_with (go_at_call 88; refine (index_tab w A n c T hL hn hA 61 (fun x => !okT x) (fun a W => by kernel_rfl) (fun x W => odd_any x W)).mono ?_; rintro e w1 ⟨rfl, hB⟩)
  go_ret
  exact ⟨rfl, hB⟩
theorem all_any (T : List (Int × Int)) : (T.any fun x => !okT x) = !(T.all okT) := by
  induction T with
  | nil => rfl
  | cons x t ih => rw [List.any_cons, List.all_cons, ih, Bool.not_and]
set_option maxHeartbeats 2000000 in
theorem wrong_any (w : World) (lo hi : Int) (A A' : Option Addr) (n c n' c' : Nat) (T : List (Int × Int)) (hL : T.length = n) (hn : n ≤ 1152921504606846976) (hA : RowsAt w A 2 tabF T) :
    Calls Tryd.prog 33 #[.int .i64 lo, .int .i64 hi, .slice A n c, .slice A' n' c'] w (RetB w (.int .i64 (sizesE lo hi T n'))) := by
  have HA := Lib.hid hA
  have HL := Lib.hid hL
  clear hA hL
  unfold sizesE
  go_enter Tryd.func33, Tryd.ntmps33
  by_cases h1 : lo < 0
  · have t1 : decide (lo < 0) = true := decide_eq_true h1
    rw [if_pos (Or.inl h1)]
    clear h1
    go_wp2_with fail
    go_ret
    exact ⟨rfl, Below.refl _ _⟩
  have t1 : decide (lo < 0) = false := decide_eq_false h1
  by_cases h2 : hi < lo
  · have t2 : decide (hi < lo) = true := decide_eq_true h2
    rw [if_pos (Or.inr (Or.inl h2))]
    clear h1 h2
    go_wp2_with fail
    go_ret
    exact ⟨rfl, Below.refl _ _⟩
  have t2 : decide (hi < lo) = false := decide_eq_false h2
  by_cases h3 : 65535 < hi
  · have t3 : decide (65535 < hi) = true := decide_eq_true h3
    rw [if_pos (Or.inr (Or.inr h3))]
    clear h1 h2 h3
    go_wp2_with fail
    go_ret
    exact ⟨rfl, Below.refl _ _⟩
  have t3 : decide (65535 < hi) = false := decide_eq_false h3
  rw [if_neg (by omega)]
  clear h1 h2 h3
  by_cases h4 : 8 < n
  · have t4 : decide (8 < (n : Int)) = true := decide_eq_true (by omega)
    rw [if_pos (Or.inl (by rw [HL.out]; exact h4))]
    clear h4
    go_wp2_with fail
    go_ret
    exact ⟨rfl, Below.refl _ _⟩
  have t4 : decide (8 < (n : Int)) = false := decide_eq_false (by omega)
  cases h5 : T.all okT
  · rw [if_pos (Or.inr rfl)]
    have HC := Lib.hid (contains_any w A n c T HL.out hn HA.out)
    rw [all_any, h5] at HC
    clear h4 h5
    go_wp2_with (go_at_call 60; refine HC.out.mono ?_; rintro e w1 ⟨rfl, hB⟩)
    go_ret
    exact ⟨rfl, hB⟩
  rw [if_neg (by rw [HL.out]; simp; omega)]
  have HC := Lib.hid (contains_any w A n c T HL.out hn HA.out)
  rw [all_any, h5] at HC
  clear h4 h5
  by_cases h6 : 4096 < n'
  · have t6 : decide (4096 < (n' : Int)) = true := decide_eq_true (by omega)
    rw [if_pos h6]
    clear h6
    go_wp2_with (go_at_call 60; refine HC.out.mono ?_; rintro e w1 ⟨rfl, hB⟩)
    go_ret
    exact ⟨rfl, hB⟩
  · have t6 : decide (4096 < (n' : Int)) = false := decide_eq_false (by omega)
    rw [if_neg h6]
    clear h6
    go_wp2_with (go_at_call 60; refine HC.out.mono ?_; rintro e w1 ⟨rfl, hB⟩)
    go_ret
    exact ⟨rfl, hB⟩
end Go.Proofs.YtlodoinmippebaaDoor.Pak
/- Package pack: sections, and which of them are written. -/
namespace Go.Proofs.YtlodoinmippebaaDoor.Pak
open Go.ChangeShapes Go.WideShapes Go.ChangeAt Go.RowKit
set_option linter.unusedVariables false
set_option linter.unusedSimpArgs false
set_option maxRecDepth 100000
/-- bytes in memory that a slice tells -/
structure Sl (w : World) (A : Option Addr) (n c : Nat) (L : List Int) : Prop where
  len : Hid (L.length = n)
  cap : n ≤ c
  byt : BytesAt w A L
  lt : ∀ b off, A = some ⟨b, off, none⟩ → b < w.heap.size
theorem Sl.up {w w' : World} {A : Option Addr} {n c : Nat} {L : List Int} (h : Sl w A n c L) (hb : Below w.heap.size w w') : Sl w' A n c L :=
  ⟨h.len, h.cap, h.byt.below hb, fun b off e => Nat.lt_of_lt_of_le (h.lt b off e) hb.size⟩
theorem own_full {w : World} {base : Nat} {v : Value} {L : List Int} (h : OwnB w base v L) : ∃ A n c, v = .slice A n c ∧ Sl w A n c L := by
  obtain ⟨A, c, hv, hA⟩ := h.form
  rcases h.2 with ⟨hv', hn⟩ | ⟨g, cap, cur, hv', hg, hh, hnc, hcm, hcs, hx⟩
  · rw [hv'] at hv
    injection hv with h1 h2 h3
    exact ⟨A, L.length, c, by rw [hv', ← h1, ← h3, hn], Lib.hid rfl, by omega, hA, fun b off e => by rw [← h1] at e; cases e⟩
  · rw [hv'] at hv
    injection hv with h1 h2 h3
    refine ⟨A, L.length, c, by rw [hv', ← h1, ← h3], Lib.hid rfl, by omega, hA, fun b off e => ?_⟩
    rw [← h1] at e
    injection e with e
    injection e with e1
    rcases Nat.lt_or_ge g w.heap.size with h4 | h4
    · omega
    · rw [Array.getElem?_eq_none h4] at hh; cases hh
structure Sc where
  kind : Int
  at_ : Int
  A : Option Addr
  n : Nat
  c : Nat
  L : List Int
def Sc.zero : Sc := ⟨0, 0, none, 0, 0, []⟩
def secF (s : Sc) : Nat → Value
  | 0 => .int .i64 s.kind
  | 1 => .int .i64 s.at_
  | _ => .slice s.A s.n s.c
theorem secF_one (s : Sc) : ∀ q, q < 3 → (secF s q).oneCell' = true := fun q hq => by
  rcases (show q = 0 ∨ q = 1 ∨ q = 2 by omega) with rfl | rfl | rfl <;> rfl
def empty (s : Sc) : Bool := decide ((s.n : Int) = 0)
theorem sizeSec : (Tryd.prog.info? 135).map (·.size) = some 3 := by kernel_rfl
theorem zeroSec : (Tryd.prog.info? 135).bind (fun i => i.zero.map Value.cells) = some (arr 3 (secF Sc.zero)) := by kernel_rfl
set_option maxHeartbeats 1000000 in
theorem empty_any (s : Sc) (w : World) : Calls Tryd.prog 85 #[.agg (arr 3 (secF s))] w (RetB w (.bool (empty s))) := by
  obtain ⟨kd, at_, A, n, c, L⟩ := s
  obtain ⟨T, hT⟩ : ∃ T, T = secF ⟨kd, at_, A, n, c, L⟩ := ⟨_, rfl⟩
  rw [← hT]
  have HTT := Lib.hid hT
  clear hT
  go_enter Tryd.func85, Tryd.ntmps85
  go_upto_region 1 with (refine wpList_box_seg rfl _ (.tmp 0) rfl 3 T rfl ?_; intro w1 h1 hB1 hs1)
  obtain ⟨gb, hgb⟩ : ∃ gb, gb = w.heap.size := ⟨_, rfl⟩
  rw [← hgb] at h1 ⊢
  have x2 : w1.cell? ⟨gb, 2, none⟩ = some (.slice A n c) := by rw [h1.cell 2 (by decide), HTT.out]; rfl
  have HB := Lib.hid hB1
  clear h1 hB1 hs1 hgb HTT
  unfold empty
  go_wp2_with fail
  go_ret
  exact ⟨by dsimp only; rfl, HB.out⟩
set_option maxHeartbeats 2000000 in
theorem index_sec (w : World) (A : Option Addr) (n c : Nat) (T : List (Sc)) (hL : T.length = n) (hn : n ≤ 1152921504606846976) (hA : RowsAt w A 3 secF T) (K : Nat) (p : Sc → Bool)
    (hen : ∀ (a : Array Value) (W : World), (callFunc K a).run Tryd.prog W = .ok (.enter K a) W)
    (hf : ∀ x W, Calls Tryd.prog K #[.agg (arr 3 (secF x))] W (RetB W (.bool (p x)))) :
    Calls Tryd.prog 111 #[.slice A n c, .func (.func K) #[] #[]] w (RetB w (.int .i64 (idxF p 0 T))) := by
  have HL := Lib.hid hL
  have HA := Lib.hid hA
  have HF := Lib.hid hf
  clear hL hA hf
  go_enter Tryd.func111, Tryd.ntmps111
  go_wp2_with fail
  go_loopw [5, 8, 9, 10, 11, 12, 13, 14, 15, 16, 18] (fun _ a8 _ _ _ _ _ _ _ _ _ wr => ∃ (j : Nat), a8 = .int .i64 j ∧ j ≤ n ∧ Hid (idxF p j (T.drop j) = idxF p 0 T) ∧ RowsAt wr A 3 secF T ∧ Below w.heap.size w wr) (fun _ a8 _ _ _ _ _ _ _ _ _ _ => (n - (intOf a8)).toNat)
  case atStart => exact ⟨0, rfl, Nat.zero_le _, Lib.hid rfl, HA.out, Below.refl _ _⟩
  case round =>
    obtain ⟨j, rfl, hj, HE, hT, hB⟩ := hrel
    have HT := Lib.hid hT
    have HB := Lib.hid hB
    clear hT hB HA
    by_cases hlt : j < n
    · have hlt' : (j : Int) < n := by omega
      obtain ⟨x, hx, hdr⟩ := drop_cons (l := T) (j := j) (by have := HL.out; omega)
      rw [hdr] at HE
      obtain ⟨b, off, rfl, hbl, hcell⟩ := HT.out (by have := HL.out; omega)
      have HX := Lib.hid (hcell j x hx)
      clear hdr hcell hx
      obtain ⟨X, hX⟩ : ∃ X, X = secF x := ⟨_, rfl⟩
      rw [← hX] at HX
      have HXX := Lib.hid hX
      clear hX
      go_wp2_with (refine wpList_load_cells rfl 135 _ rfl b (off + j * 3) rfl 3 X _ HX.out Tryd.underlying135 rfl sizeSec ?_)
      rw [HXX.out]
      refine (HF.out x wr).mono ?_
      rintro e w2 ⟨rfl, hB2⟩
      have HB2 := Lib.hid (HB.out.trans (hB2.mono HB.out.size))
      have HT2 := Lib.hid (HT.out.below hB2)
      have HE' := HE.out
      change (if p x = true then (j : Int) else idxF p (j + 1) (T.drop (j + 1))) = idxF p 0 T at HE'
      clear hB2 HX HB HT HE
      cases hp : p x
      · rw [hp, if_neg (by simp)] at HE'
        have HE2 := Lib.hid HE'
        clear HE' hp
        go_wp2_with fail
        go_roundw
        case rel => exact ⟨j + 1, by go_num, by omega, HE2, HT2.out, HB2.out⟩
        case measure => simp [intOf]; omega
      · rw [hp, if_pos rfl] at HE'
        have HE2 := Lib.hid HE'
        clear HE' hp
        go_wp2_with fail
        go_ret
        exact ⟨ret_i64 HE2.out, HB2.out⟩
    · obtain rfl : j = n := by omega
      have HE2 := Lib.hid (show -1 = idxF p 0 T by rw [← HE.out, List.drop_of_length_le (by have := HL.out; omega)]; rfl)
      clear hlt HE
      go_wp2_with fail
      go_ret
      exact ⟨ret_i64 HE2.out, HB.out⟩

end Go.Proofs.YtlodoinmippebaaDoor.Pak
/- Package pack: sections that are left out (slices.DeleteFunc). -/
namespace Go.Proofs.YtlodoinmippebaaDoor.Pak
open Go.ChangeShapes Go.WideShapes Go.ChangeAt Go.RowKit
set_option linter.unusedVariables false
set_option linter.unusedSimpArgs false
set_option maxRecDepth 100000
def rowF (F : Nat → Sc) (k : Nat) : Value := secF (F (k / 3)) (k % 3)
theorem rowF_at (F : Nat → Sc) (j k : Nat) (hk : k < 3) : rowF F (j * 3 + k) = secF (F j) k := by
  unfold rowF
  rw [show (j * 3 + k) / 3 = j by omega, show (j * 3 + k) % 3 = k by omega]
theorem row_upd (F : Nat → Sc) (i : Nat) (x : Sc) (N : Nat) : ∀ k, k < N → updR (rowF F) (i * 3) 3 (secF x) k = rowF (fun q => if q = i then x else F q) k := fun k _ => by
  unfold updR rowF
  by_cases h : i * 3 ≤ k ∧ k < i * 3 + 3
  · have e : k / 3 = i := by omega
    simp only [if_pos h, if_pos e, show k - i * 3 = k % 3 by omega]
  · have e : ¬ (k / 3 = i) := by omega
    simp only [if_neg h, if_neg e]
theorem fb_rows {w : World} {g N : Nat} {F : Nat → Sc} {t : TypeId} (h : FB w g t (N * 3) (rowF F)) (m : Nat) (hm : m ≤ N) : RowsAt w (some ⟨g, 0, none⟩) 3 secF ((List.range m).map F) := fun _ =>
  ⟨g, 0, rfl, h.lt, fun j a hj k hk => by
    have hjm : j < m := by
      rcases Nat.lt_or_ge j m with h1 | h1
      · exact h1
      · rw [List.getElem?_eq_none (by simpa using h1)] at hj; cases hj
    have e : a = F j := by simpa [hjm] using hj.symm
    rw [Nat.zero_add, h.cell (j * 3 + k) (by omega), rowF_at F j k hk, e]⟩
theorem run_clear_seg {P : Program} (w : World) (T e ty : TypeId) (s : Nat) (z : Nat → Value) (hu : P.underlying T = some (.slice e)) (hz : (P.info? e).bind (fun i => i.zero.map Value.cells) = some (arr s z)) (hs0 : 0 < s) (h1 : ∀ k, k < s → (z k).oneCell' = true)
    (g off n c N : Nat) (t : TypeId) (f : Nat → Value) (hg : FB w g t N f) (hn : off + n * s ≤ N) :
    (Builtin.clear_ #[T] ty #[.slice (some ⟨g, off, none⟩) n c]).run P w = .ok (.tuple #[]) (w.setRow g (arr N (updR f off (n * s) fun k => z (k % s)))) := by
  cases hq : P.info? e with
  | none => simp [hq] at hz
  | some i =>
    cases hzz : i.zero with
    | none => simp [hq, hzz] at hz
    | some zv =>
      have hc : zv.cells = arr s z := by simpa [hq, hzz] using hz
      have r2 : ∀ w : World, (zeroValue e).run P w = .ok zv w := fun w => by simp [zeroValue, typeInfo, hq, hzz]
      have hzc : (Builtin.zeroCells zv.cells n) = arr (n * s) (fun k => z (k % s)) := by
        rw [hc]
        refine arr_of _ _ _ (by simp [Builtin.zeroCells, arr_size]) fun k hk => ?_
        unfold Builtin.zeroCells
        have h2 : k % s < s := Nat.mod_lt _ hs0
        have h3 := arr_get s z (k % s) h2
        simp only [arr_size, Array.getElem?_map, Array.getElem?_range, hk, if_true, Option.map_some]
        rw [Array.getElem!_eq_getD]
        simp [Array.getD, arr_size, h2] at h3 ⊢
        exact h3
      have hst := run_storeCells_at P g off t (arr (n * s) (fun k => z (k % s))).toList 0 (arr N f) w hg (by simp [arr]; omega) (fun v hv => by
        rw [arr_toList, List.mem_map] at hv
        obtain ⟨q, hq, rfl⟩ := hv
        exact h1 _ (Nat.mod_lt _ hs0))
      rw [Nat.add_zero, updR_list N off (n * s) f (fun k => z (k % s)) hn] at hst
      rcases Nat.eq_zero_or_pos n with h0 | h0
      · subst h0
        simp only [Nat.zero_mul] at hst ⊢
        have e1 : arr N (updR f off 0 fun k => z (k % s)) = arr N f := arr_congr fun k _ => updR_zero _ _ _ _
        rw [e1]
        have e2 : w.setRow g (arr N f) = w := setRow_self w g (arr N f) t (0, 0) hg
        rw [e2]
        simp [Builtin.clear_, run_underlying hu, r2]
      · obtain ⟨m, rfl⟩ : ∃ m, n = m + 1 := ⟨n - 1, by omega⟩
        simp [Builtin.clear_, run_underlying hu, r2, hzc, hst]
theorem idxF_spec {α : Type} (p : α → Bool) : ∀ (l : List α) (j i : Nat), idxF p j l = (i : Int) → ∃ q, i = j + q ∧ q < l.length ∧ (∀ r, r < q → ∀ a, l[r]? = some a → p a = false) ∧ ∀ a, l[q]? = some a → p a = true
  | [], j, i, h => by unfold idxF at h; omega
  | x :: t, j, i, h => by
    change (if p x = true then (j : Int) else idxF p (j + 1) t) = i at h
    cases hp : p x
    · rw [hp, if_neg (by simp)] at h
      obtain ⟨q, e, hq, h1, h2⟩ := idxF_spec p t (j + 1) i h
      refine ⟨q + 1, by omega, by simpa using hq, fun r hr a ha => ?_, fun a ha => h2 a (by simpa using ha)⟩
      cases r with
      | zero => have : x = a := by simpa using ha
                rw [← this]; exact hp
      | succ r => exact h1 r (by omega) a (by simpa using ha)
    · rw [hp, if_pos rfl] at h
      exact ⟨0, by omega, by simp, fun r hr => by omega, fun a ha => by have : x = a := by simpa using ha
                                                                        rw [← this]; exact hp⟩
theorem idxF_none {α : Type} (p : α → Bool) : ∀ (l : List α) (j : Nat), idxF p j l < 0 → l.filter (fun x => !p x) = l
  | [], j, h => rfl
  | x :: t, j, h => by
    change (if p x = true then (j : Int) else idxF p (j + 1) t) < 0 at h
    cases hp : p x
    · rw [hp, if_neg (by simp)] at h
      rw [List.filter_cons, hp]
      simp only [Bool.not_false, if_true]
      rw [idxF_none p t (j + 1) h]
    · rw [hp, if_pos rfl] at h; omega
theorem idxF_ge {α : Type} (p : α → Bool) : ∀ (l : List α) (j : Nat), -1 ≤ idxF p j l
  | [], j => Int.le_refl _
  | x :: t, j => by
    unfold idxF
    split
    · omega
    · exact idxF_ge p t _
theorem range_filter_succ (F : Nat → Sc) (p : Sc → Bool) (j : Nat) : ((List.range (j + 1)).map F).filter p = ((List.range j).map F).filter p ++ (if p (F j) = true then [F j] else []) := by
  rw [List.range_succ, List.map_append, List.filter_append]
  congr 1
  simp only [List.map_cons, List.map_nil, List.filter_cons, List.filter_nil]
theorem map_upd (F : Nat → Sc) (i : Nat) (x : Sc) : (List.range (i + 1)).map (fun q => if q = i then x else F q) = (List.range i).map F ++ [x] := by
  rw [List.range_succ, List.map_append, List.map_cons, List.map_nil, if_pos rfl]
  congr 1
  refine List.map_congr_left fun q hq => ?_
  rw [if_neg (by have := List.mem_range.1 hq; omega)]
def keep (s : Sc) : Bool := !empty s
theorem filter_all (F : Nat → Sc) : ∀ i : Nat, (∀ r, r < i → empty (F r) = false) → ((List.range i).map F).filter keep = (List.range i).map F := fun i h => by
  rw [List.filter_eq_self]
  intro a ha
  obtain ⟨q, hq, rfl⟩ := List.mem_map.1 ha
  unfold keep
  rw [h q (List.mem_range.1 hq)]; rfl
/-- what DeleteFunc leaves: the first m places of the same row -/
def Deleted (w : World) (g N : Nat) (F : Nat → Sc) (e : Ending) (w' : World) : Prop :=
  ∃ m F', e = .returned (.slice (some ⟨g, 0, none⟩) m N) ∧ m ≤ N ∧ FB w' g 135 (N * 3) (rowF F') ∧ (List.range m).map F' = ((List.range N).map F).filter keep ∧ Touch g w w'
set_option maxHeartbeats 4000000 in
theorem delete_any (w : World) (g N : Nat) (F : Nat → Sc) (hN : 0 < N) (hN4 : N ≤ 1048576) (hF : FB w g 135 (N * 3) (rowF F)) :
    Calls Tryd.prog 84 #[.slice (some ⟨g, 0, none⟩) N N, .func (.func 85) #[] #[]] w (Deleted w g N F) := by
  have HF := Lib.hid hF
  have HI := Lib.hid (index_sec w (some ⟨g, 0, none⟩) N N ((List.range N).map F) (by simp) (by omega) (fb_rows hF N (Nat.le_refl _)) 85 empty (fun a W => by kernel_rfl) (fun x W => empty_any x W))
  have hen : ∀ (a : Array Value) (W : World), (callFunc 85 a).run Tryd.prog W = .ok (.enter 85 a) W := fun a W => by kernel_rfl
  obtain ⟨ix, hix⟩ : ∃ ix, ix = idxF empty 0 ((List.range N).map F) := ⟨_, rfl⟩
  rw [← hix] at HI
  have hge := idxF_ge empty ((List.range N).map F) 0
  rw [← hix] at hge
  have HIX := Lib.hid hix
  clear hF hix
  go_enter Tryd.func84, Tryd.ntmps84
  go_upto_region 2 with (go_at_call 111; refine HI.out.mono ?_; rintro e w1 ⟨rfl, hB1⟩)
  have HF1 := Lib.hid (HF.out.up hB1)
  have HT1 := Lib.hid (Touch.of_below (g := g) hB1)
  clear HI hB1
  by_cases h0 : ix = -1
  · have t0 : (ix == -1) = true := by rw [h0]; rfl
    have HA := Lib.hid (idxF_none empty ((List.range N).map F) 0 (by rw [← HIX.out, h0]; decide))
    clear h0
    go_wp2_with fail
    go_ret
    exact ⟨N, F, rfl, Nat.le_refl _, HF1.out, HA.out.symm, HT1.out⟩
  · have t0 : (ix == -1) = false := by rw [beq_eq_false_iff_ne]; exact h0
    obtain ⟨i0, rfl⟩ : ∃ i0 : Nat, ix = (i0 : Int) := ⟨ix.toNat, by omega⟩
    obtain ⟨q, hq, hql, hq1, hq2⟩ := idxF_spec empty ((List.range N).map F) 0 i0 HIX.out.symm
    obtain rfl : i0 = q := by omega
    have hiN : i0 < N := by simpa using hql
    have HA := Lib.hid (show (List.range i0).map F = ((List.range (i0 + 1)).map F).filter keep by
      rw [range_filter_succ]
      have h1 : empty (F i0) = true := hq2 (F i0) (by simp [hiN])
      have h2 : keep (F i0) = false := by unfold keep; rw [h1]; rfl
      rw [h2, if_neg (by simp), List.append_nil, filter_all F i0 fun r hr => hq1 r hr (F r) (by rw [List.getElem?_map, List.getElem?_range (Nat.lt_trans hr hiN)]; rfl)])
    clear hge h0 hq hql hq1 hq2 HIX HF
    go_wp2_with fail
    go_loopw [5, 6, 7, 16, 17, 18, 19, 20, 21, 22, 23, 24, 25, 26, 27, 28, 29, 30, 31, 32, 33, 34, 35] (fun a5 a6 _ _ _ _ _ _ _ _ _ _ _ _ _ _ _ _ _ _ _ _ _ wr => ∃ (i j : Nat) (F' : Nat → Sc), a5 = .int .i64 i ∧ a6 = .int .i64 j ∧ i < j ∧ j ≤ N ∧ FB wr g 135 (N * 3) (rowF F') ∧ Hid (∀ q, j ≤ q → F' q = F q) ∧ Hid ((List.range i).map F' = ((List.range j).map F).filter keep) ∧ Touch g w wr) (fun _ a6 _ _ _ _ _ _ _ _ _ _ _ _ _ _ _ _ _ _ _ _ _ _ => (N - intOf a6).toNat)
    case atStart => exact ⟨i0, i0 + 1, F, rfl, by go_num, by omega, by omega, HF1.out, Lib.hid fun _ _ => rfl, HA, HT1.out⟩
    case round =>
      obtain ⟨i, j, F', rfl, rfl, hij, hjN, hF, HS, HA', hT⟩ := hrel
      have HF := Lib.hid hF
      have HT := Lib.hid hT
      clear hF hT HF1 HT1 HA
      by_cases hlt : j < N
      · have hlt' : (j : Int) < N := by omega
        have hiN' : (i : Int) < N := by omega
        obtain ⟨x, hx⟩ : ∃ x, x = F j := ⟨_, rfl⟩
        have hc : ∀ k, k < 3 → wr.cell? ⟨g, j * 3 + k, none⟩ = some (secF x k) := fun k hk => by
          rw [HF.out.cell (j * 3 + k) (by omega), rowF_at F' j k hk, HS.out j (Nat.le_refl _), hx]
        obtain ⟨X, hX⟩ : ∃ X, X = secF x := ⟨_, rfl⟩
        rw [← hX] at hc
        have HC := Lib.hid hc
        have HXX := Lib.hid hX
        have HX1 := Lib.hid (show ∀ q, q < 3 → (X q).oneCell' = true by rw [hX]; exact secF_one x)
        have HXJ := Lib.hid hx
        clear hc hX hx
        go_upto_region 8 with (first
          | (refine wpList_load_cells rfl 135 _ rfl g (j * 3) rfl 3 X _ HC.out Tryd.underlying135 rfl sizeSec ?_)
          | (refine wpList_alloc_seg rfl 135 rfl 3 (secF Sc.zero) zeroSec ?_; intro w2 h2 hB2 hs2)
          | (refine wpList_store_all rfl 135 _ _ rfl wr.heap.size 135 3 _ X rfl rfl h2 sizeSec HX1.out ?_; intro w3 h3 hT3 hs3))
        obtain ⟨gb, hgb⟩ : ∃ gb, gb = wr.heap.size := ⟨_, rfl⟩
        rw [← hgb] at h2 hB2 h3 hT3 hs2 ⊢
        have hgne : g ≠ gb := by have := HF.out.lt; omega
        have hbw : Below wr.heap.size wr w3 := by rw [← hgb]; exact hB2.trans (hT3.below (Nat.le_refl _) (by have := hB2.size; omega))
        have HF3 := Lib.hid (HF.out.up hbw)
        have HT3 := Lib.hid (HT.out.trans (Touch.of_below (g := g) hbw))
        have HG := Lib.hid hgne
        have HV := Lib.hid h3
        clear h2 hB2 h3 hT3 hs2 hs3 hgb hbw hgne HC HF HT
        go_upto_region 8 with fail
        go_upto_if 29 with (first
          | (refine wpList_load_all rfl 135 _ rfl gb rfl 135 3 X _ HV.out Tryd.underlying135 rfl sizeSec ?_)
          | (go_at_call 85; rw [HXX.out]; refine (empty_any x _).mono ?_; rintro e w4 ⟨rfl, hB4⟩; rw [← HXX.out]))
        have HF4 := Lib.hid (HF3.out.up hB4)
        have HV4 := Lib.hid (HV.out.up hB4)
        have HT4 := Lib.hid (HT3.out.trans (Touch.of_below (g := g) hB4))
        clear hB4 HF3 HV HT3
        cases he : empty x
        · have HR := Lib.hid (show (List.range (i + 1)).map (fun q => if q = i then x else F' q) = ((List.range (j + 1)).map F).filter keep by
            rw [map_upd, range_filter_succ, HA'.out, ← HXJ.out]
            have : keep x = true := by unfold keep; rw [he]; rfl
            rw [this, if_pos rfl])
          have HSS := Lib.hid (show ∀ q, j + 1 ≤ q → (fun q => if q = i then x else F' q) q = F q from fun q hq => by
            show (if q = i then x else F' q) = F q
            rw [if_neg (by omega)]; exact HS.out q (by omega))
          clear he HS HA' HXJ
          go_wp2_with (first
            | (refine wpList_load_all rfl 135 _ rfl gb rfl 135 3 X _ HV4.out Tryd.underlying135 rfl sizeSec ?_)
            | (refine wpList_store_seg rfl 135 _ _ rfl g (i * 3) 135 (N * 3) 3 (rowF F') X rfl rfl HF4.out (by omega) sizeSec HX1.out ?_; intro w5 h5 hT5 hs5))
          go_roundw
          case rel =>
            rw [HXX.out] at h5
            exact ⟨i + 1, j + 1, fun q => if q = i then x else F' q, by go_num, by go_num, by omega, by omega, h5.congr (row_upd F' i x (N * 3)), HSS, HR, HT4.out.trans hT5⟩
          case measure => simp [intOf]; omega
        · have HR := Lib.hid (show (List.range i).map F' = ((List.range (j + 1)).map F).filter keep by
            rw [range_filter_succ, HA'.out, ← HXJ.out]
            have : keep x = false := by unfold keep; rw [he]; rfl
            rw [this, if_neg (by simp), List.append_nil])
          have HSS := Lib.hid (show ∀ q, j + 1 ≤ q → F' q = F q from fun q hq => HS.out q (by omega))
          clear he HS HA' HXJ
          go_wp2_with fail
          go_roundw
          case rel => exact ⟨i, j + 1, F', rfl, by go_num, by omega, by omega, HF4.out, HSS, HR, HT4.out⟩
          case measure => simp [intOf]; omega
      · obtain rfl : j = N := by omega
        have hcl : ∀ ty, (Builtin.clear_ #[101] ty #[.slice (some ⟨g, i * 3, none⟩) (j - i) (j - i)]).run Tryd.prog wr = .ok (.tuple #[]) (wr.setRow g (arr (j * 3) (updR (rowF F') (i * 3) ((j - i) * 3) fun k => secF Sc.zero (k % 3)))) := fun ty =>
          run_clear_seg wr 101 135 ty 3 (secF Sc.zero) Tryd.underlying101 zeroSec (by decide) (secF_one _) g (i * 3) (j - i) (j - i) (j * 3) 135 (rowF F') HF.out (by omega)
        have HFE := Lib.hid (show FB (wr.setRow g (arr (j * 3) (updR (rowF F') (i * 3) ((j - i) * 3) fun k => secF Sc.zero (k % 3)))) g 135 (j * 3) (rowF fun q => if q < i then F' q else Sc.zero) from (setRow_FB HF.out).congr fun k hk => by
          unfold updR rowF
          by_cases h : i * 3 ≤ k ∧ k < i * 3 + (j - i) * 3
          · have e : ¬ (k / 3 < i) := by omega
            simp only [if_pos h, if_neg e, show (k - i * 3) % 3 = k % 3 by omega]
          · have e : k / 3 < i := by omega
            simp only [if_neg h, if_pos e])
        have HTE := Lib.hid (HT.out.trans (setRow_touch wr g (arr (j * 3) (updR (rowF F') (i * 3) ((j - i) * 3) fun k => secF Sc.zero (k % 3)))))
        obtain ⟨wE, hwE⟩ : ∃ wE, wE = wr.setRow g (arr (j * 3) (updR (rowF F') (i * 3) ((j - i) * 3) fun k => secF Sc.zero (k % 3))) := ⟨_, rfl⟩
        rw [← hwE] at hcl HFE HTE
        have HME := Lib.hid (show (List.range i).map (fun q => if q < i then F' q else Sc.zero) = ((List.range j).map F).filter keep by
          rw [← HA'.out]
          exact List.map_congr_left fun q hq => if_pos (List.mem_range.1 hq))
        clear hwE hlt HF HT HS HA'
        go_wp2_with fail
        go_ret
        exact ⟨i, _, rfl, by omega, HFE.out, HME.out, HTE.out⟩
end Go.Proofs.YtlodoinmippebaaDoor.Pak
/- Package pack: the sections that a container is written in. -/
namespace Go.Proofs.YtlodoinmippebaaDoor.Pak
open Go.ChangeShapes Go.WideShapes Go.ChangeAt Go.RowKit
set_option linter.unusedVariables false
set_option linter.unusedSimpArgs false
set_option maxRecDepth 100000
def SlEnd (w0 w : World) (L : List Int) (e : Ending) (w' : World) : Prop := ∃ A n c, e = .returned (.slice A n c) ∧ Sl w' A n c L ∧ Below w.heap.size w w' ∧ Below w0.heap.size w0 w'
set_option maxHeartbeats 1000000 in
theorem lens_any (w0 w : World) (h0 : Below w0.heap.size w0 w) (lo hi : Int) : Calls Tryd.prog 82 #[.int .i64 lo, .int .i64 hi] w (SlEnd w0 w (le lo 2 ++ le hi 2)) := by
  have HO := Lib.hid (OwnB.nil w w.heap.size)
  go_enter Tryd.func82, Tryd.ntmps82
  go_upto_region 2 with (first
    | (go_at_call 86; refine (put_any w w.heap.size (.slice none 0 0) [] lo 2 HO.out (Nat.le_refl _) (by simp)).mono ?_; rintro e w1 ⟨v1, rfl, hO1, hU1⟩; clear HO; have HO := Lib.hid hO1; have HU := Lib.hid hU1; have hs1 := hU1.below.size; clear hO1 hU1; obtain ⟨A1, c1, rfl, -⟩ := HO.out.form)
    | (go_at_call 86; refine (put_any w1 w.heap.size _ _ hi 2 HO.out hs1 (by simp [le_len])).mono ?_; rintro e w2 ⟨v2, rfl, hO2, hU2⟩))
  obtain ⟨A, n, c, rfl, hSl⟩ := own_full hO2
  have hb := HU.out.below.trans hU2.below
  go_wp2_with fail
  go_ret
  exact ⟨A, n, c, rfl, hSl, hb, h0.trans (hb.mono h0.size)⟩
theorem bytes_box2 (w : World) (x y : Int) : BytesAt (w.alloc (.cells #[.int .u8 x, .int .u8 y] 5)) (some ⟨w.heap.size, 0, none⟩) [x, y] := (ByteBlk.new w [x, y]).at_
theorem tabF_one (x : Int × Int) : ∀ q, q < 2 → (tabF x q).oneCell' = true := fun q hq => by
  rcases (show q = 0 ∨ q = 1 by omega) with rfl | rfl <;> rfl
theorem zeroTab : (Tryd.prog.info? 69).bind (fun i => i.zero.map Value.cells) = some (arr 2 (tabF (0, 0))) := by kernel_rfl
set_option maxHeartbeats 2000000 in
theorem sizes_any (w0 w : World) (h0 : Below w0.heap.size w0 w) (A : Option Addr) (n c : Nat) (T : List (Int × Int)) (hL : T.length = n) (hn : n ≤ 1048576) (hA : RowsAt w A 2 tabF T) :
    Calls Tryd.prog 83 #[.slice A n c] w (SlEnd w0 w (tabB T)) := by
  have HL := Lib.hid hL
  have HA := Lib.hid hA
  have HO := Lib.hid (OwnB.nil w w.heap.size)
  clear hL hA
  go_enter Tryd.func83, Tryd.ntmps83
  go_wp2_with fail
  go_loopw [3, 5, 8, 9, 10, 11, 12, 13, 14, 15, 16, 17, 18, 19, 20, 21] (fun a3 _ a8 _ _ _ _ _ _ _ _ _ _ _ _ _ wr => ∃ (j : Nat) (M : List Int), a8 = .int .i64 j ∧ j ≤ n ∧ Hid (M.length = 2 * j) ∧ Hid (M ++ tabB (T.drop j) = tabB T) ∧ OwnB wr w.heap.size a3 M ∧ Below w.heap.size w wr) (fun _ _ a8 _ _ _ _ _ _ _ _ _ _ _ _ _ _ => (n - intOf a8).toNat)
  case atStart => exact ⟨0, [], rfl, Nat.zero_le _, Lib.hid rfl, Lib.hid rfl, HO.out, Below.refl _ _⟩
  case round =>
    obtain ⟨j, M, rfl, hj, HML, HE, hO, hB⟩ := hrel
    clear HO
    have HO := Lib.hid hO
    have HB := Lib.hid hB
    clear hO hB
    by_cases hlt : j < n
    · have hlt' : (j : Int) < n := by omega
      obtain ⟨x, hx, hdr⟩ := drop_cons (l := T) (j := j) (by have := HL.out; omega)
      rw [hdr] at HE
      obtain ⟨b, off, rfl, hbl, hcell⟩ := (HA.out.below HB.out) (by have := HL.out; omega)
      have HX := Lib.hid (hcell j x hx)
      clear hdr hcell hx
      obtain ⟨r, d⟩ := x
      obtain ⟨X, hX⟩ : ∃ X, X = tabF (r, d) := ⟨_, rfl⟩
      rw [← hX] at HX
      have HX1 := Lib.hid (show ∀ q, q < 2 → (X q).oneCell' = true by rw [hX]; exact tabF_one _)
      have HXX := Lib.hid hX
      clear hX
      go_upto_region 5 with (first
        | (refine wpList_load_cells rfl 69 _ rfl b (off + j * 2) rfl 2 X _ HX.out Tryd.underlying69 rfl sizeTab ?_)
        | (refine wpList_alloc_seg rfl 69 rfl 2 (tabF (0, 0)) zeroTab ?_; intro w2 h2 hB2 hs2)
        | (refine wpList_store_all rfl 69 _ _ rfl wr.heap.size 69 2 _ X rfl rfl h2 sizeTab HX1.out ?_; intro w3 h3 hT3 hs3))
      obtain ⟨gb, hgb⟩ : ∃ gb, gb = wr.heap.size := ⟨_, rfl⟩
      have hbw : Below wr.heap.size wr w3 := hB2.trans (hT3.below (Nat.le_refl _) hB2.size)
      rw [← hgb] at h3 ⊢
      have y0 : w3.cell? ⟨gb, 0, none⟩ = some (.int .i64 r) := by rw [h3.cell 0 (by decide), HXX.out]; rfl
      have y1 : w3.cell? ⟨gb, 1, none⟩ = some (.int .i64 d) := by rw [h3.cell 1 (by decide), HXX.out]; rfl
      have e1 := u8_wrap r
      have e2 := u8_wrap d
      have HO3 := Lib.hid (ownB_up HO.out hbw)
      have HB3 := Lib.hid (HB.out.trans (hbw.mono HB.out.size))
      clear h2 hB2 h3 hT3 hs2 hs3 hgb hbw HX HXX HX1 HO HB
      have hbx := below_box w3 (.cells #[.int .u8 (r % 256), .int .u8 (d % 256)] 5)
      have HO4 := Lib.hid (ownB_up HO3.out hbx)
      have HB4 := Lib.hid (HB3.out.trans (hbx.mono HB3.out.size))
      have HBX := Lib.hid (bytes_box2 w3 (r % 256) (d % 256))
      have HLE := Lib.hid (show M.length + 2 ≤ 140737488355328 by have := HML.out; omega)
      have HE2 := Lib.hid (show (M ++ [r % 256, d % 256]) ++ tabB (T.drop (j + 1)) = tabB T by rw [← HE.out, tabB_cons, List.append_assoc]; rfl)
      obtain ⟨A3, c3, hv3, -⟩ := HO3.out.form
      subst hv3
      obtain ⟨q, hq⟩ : ∃ q, q = M.length := ⟨_, rfl⟩
      rw [← hq] at HO4 HO3 ⊢
      have HS4 := Lib.hid HB4.out.size
      have HMM := Lib.hid (show (M ++ [r % 256, d % 256]).length = 2 * (j + 1) by have := HML.out; simp; omega)
      clear hbx HE hq HO3
      go_wp2_with (at_builtin; (refine append_bytesG Tryd.underlying22 byte_info _ rfl (.tmp 12) (.tmp 19) rfl w.heap.size _ M rfl HO4.out _ 2 2 [r % 256, d % 256] rfl rfl HBX.out HLE.out HS4.out ?_; intro v9 w9 hown9 hg9; have hUT := UT.grown hg9 HO4.out HS4.out))
      go_roundw
      case rel => exact ⟨j + 1, M ++ [r % 256, d % 256], by go_num, by omega, HMM, HE2, hown9, HB4.out.trans hUT.below⟩
      case measure => simp [intOf]; omega
    · obtain rfl : j = n := by omega
      have HE2 := Lib.hid (show M = tabB T by rw [← HE.out, List.drop_of_length_le (by have := HL.out; omega)]; exact (List.append_nil _).symm)
      obtain ⟨A3, n3, c3, rfl, hSl⟩ := own_full HO.out
      have HSl := Lib.hid hSl
      clear hlt HE hSl
      go_wp2_with fail
      go_ret
      exact ⟨A3, n3, c3, rfl, by rw [← HE2.out]; exact HSl.out, HB.out, h0.trans (HB.out.mono h0.size)⟩
end Go.Proofs.YtlodoinmippebaaDoor.Pak
/- Package pack: all sections of a container. -/
namespace Go.Proofs.YtlodoinmippebaaDoor.Pak
open Go.ChangeShapes Go.WideShapes Go.ChangeAt Go.RowKit
set_option linter.unusedVariables false
set_option linter.unusedSimpArgs false
set_option maxRecDepth 100000
structure Tb (w : World) (A : Option Addr) (n c : Nat) (T : List (Int × Int)) : Prop where
  len : Hid (T.length = n)
  cap : n ≤ c
  row : RowsAt w A 2 tabF T
theorem Tb.up {w w' : World} {A : Option Addr} {n c : Nat} {T : List (Int × Int)} (h : Tb w A n c T) (hb : Below w.heap.size w w') : Tb w' A n c T := ⟨h.len, h.cap, h.row.below hb⟩
def pkF (lo hi : Int) (vd vt vc : Value) : Nat → Value
  | 0 => .int .i64 lo
  | 1 => .int .i64 hi
  | 2 => vd
  | 3 => vt
  | _ => vc
/-- a container in memory: its three slices -/
structure PkAt (w : World) (vd vt vc : Value) (k : Pk) : Prop where
  data : ∃ A n c, vd = .slice A n c ∧ Sl w A n c k.data
  tabs : ∃ A n c, vt = .slice A n c ∧ Tb w A n c k.tabs
  code : ∃ A n c, vc = .slice A n c ∧ Sl w A n c k.code
theorem PkAt.up {w w' : World} {vd vt vc : Value} {k : Pk} (h : PkAt w vd vt vc k) (hb : Below w.heap.size w w') : PkAt w' vd vt vc k := by
  obtain ⟨⟨A, n, c, e, h1⟩, ⟨A', n', c', e', h2⟩, A'', n'', c'', e'', h3⟩ := h
  exact ⟨⟨A, n, c, e, h1.up hb⟩, ⟨A', n', c', e', h2.up hb⟩, A'', n'', c'', e'', h3.up hb⟩
def F4 (a b c d : Sc) : Nat → Sc
  | 0 => a
  | 1 => b
  | 2 => c
  | _ => d
def list4 (k : Pk) : List (Int × List Int) := [(1, le k.lo 2 ++ le k.hi 2), (2, tabB k.tabs), (3, k.data), (4, k.code)]
def full (x : Int × List Int) : Bool := !(decide (x.2 = []))
/-- what sections answers: a row of sections, their bytes in memory -/
def Sectioned (w : World) (k : Pk) (e : Ending) (w' : World) : Prop :=
  ∃ A m c l, e = .returned (.slice A m c) ∧ Hid (l.length = m) ∧ m ≤ 4 ∧ RowsAt w' A 3 secF l ∧ l.map (fun s => (s.kind, s.L)) = (list4 k).filter full ∧ (∀ s ∈ l, Sl w' s.A s.n s.c s.L) ∧ Below w.heap.size w w'
theorem empty_iff {w : World} {s : Sc} (h : Sl w s.A s.n s.c s.L) : keep s = full (s.kind, s.L) := by
  unfold keep full empty
  have := h.len.out
  congr 1
  rw [decide_eq_decide]
  constructor
  · intro e; exact List.eq_nil_of_length_eq_zero (show s.L.length = 0 by omega)
  · intro e; simp only at e; rw [e] at this; simp at this; omega
theorem filter_map {w : World} : ∀ (l : List Sc), (∀ s ∈ l, Sl w s.A s.n s.c s.L) → (l.filter keep).map (fun s => (s.kind, s.L)) = (l.map (fun s => (s.kind, s.L))).filter full
  | [], _ => rfl
  | s :: t, h => by
    rw [List.map_cons, List.filter_cons, List.filter_cons, empty_iff (h s (by simp))]
    have ih := filter_map t fun x hx => h x (by simp [hx])
    cases full (s.kind, s.L)
    · simpa using ih
    · simp [ih]
theorem secs_fb (w : World) (A0 : Option Addr) (n0 c0 : Nat) (L0 : List Int) (A1 : Option Addr) (n1 c1 : Nat) (L1 : List Int) (A2 : Option Addr) (n2 c2 : Nat) (L2 : List Int) (A3 : Option Addr) (n3 c3 : Nat) (L3 : List Int) :
    FB (w.alloc (.cells #[.int .i64 1, .int .i64 0, .slice A0 n0 c0, .int .i64 2, .int .i64 0, .slice A1 n1 c1, .int .i64 3, .int .i64 0, .slice A2 n2 c2, .int .i64 4, .int .i64 0, .slice A3 n3 c3] 135)) w.heap.size 135 (4 * 3) (rowF (F4 ⟨1, 0, A0, n0, c0, L0⟩ ⟨2, 0, A1, n1, c1, L1⟩ ⟨3, 0, A2, n2, c2, L2⟩ ⟨4, 0, A3, n3, c3, L3⟩)) := FB.new w _ 12 (rowF (F4 ⟨1, 0, A0, n0, c0, L0⟩ ⟨2, 0, A1, n1, c1, L1⟩ ⟨3, 0, A2, n2, c2, L2⟩ ⟨4, 0, A3, n3, c3, L3⟩))
set_option maxHeartbeats 4000000 in
theorem sections_any (w : World) (k : Pk) (vd vt vc : Value) (hk : PkAt w vd vt vc k) (hT : k.tabs.length ≤ 8) :
    Calls Tryd.prog 53 #[.agg (arr 5 (pkF k.lo k.hi vd vt vc))] w (Sectioned w k) := by
  obtain ⟨⟨Ad, nd, cd, rfl, hD⟩, ⟨At, nt, ct, rfl, hTb⟩, Ac, nc, cc, rfl, hC⟩ := hk
  obtain ⟨lo, hi, data, tabs, code⟩ := k
  simp only at hD hTb hC hT ⊢
  obtain ⟨T, hTT⟩ : ∃ T, T = pkF lo hi (.slice Ad nd cd) (.slice At nt ct) (.slice Ac nc cc) := ⟨_, rfl⟩
  rw [← hTT]
  have HTT := Lib.hid hTT
  clear hTT
  go_enter Tryd.func53, Tryd.ntmps53
  go_upto_region 1 with (refine wpList_box_seg rfl _ (.tmp 0) rfl 5 T rfl ?_; intro w1 h1 hB1 hs1)
  obtain ⟨gk, hgk⟩ : ∃ gk, gk = w.heap.size := ⟨_, rfl⟩
  rw [← hgk] at h1 ⊢
  have HK := Lib.hid (show ∀ W, Below w1.heap.size w1 W → W.cell? ⟨gk, 0, none⟩ = some (.int .i64 lo) ∧ W.cell? ⟨gk, 1, none⟩ = some (.int .i64 hi) ∧ W.cell? ⟨gk, 2, none⟩ = some (.slice Ad nd cd) ∧ W.cell? ⟨gk, 3, none⟩ = some (.slice At nt ct) ∧ W.cell? ⟨gk, 4, none⟩ = some (.slice Ac nc cc) ∧ Below w1.heap.size w1 W from fun W hW => by
    have h2 := h1.up hW
    rw [HTT.out] at h2
    exact ⟨h2.cell 0 (by decide), h2.cell 1 (by decide), h2.cell 2 (by decide), h2.cell 3 (by decide), h2.cell 4 (by decide), hW⟩)
  have hb0 : Below w.heap.size w w1 := hB1
  have HB1 := Lib.hid hb0
  have HD1 := Lib.hid (hD.up hb0)
  have HC1 := Lib.hid (hC.up hb0)
  have HT1 := Lib.hid (hTb.up hb0)
  have HTL := Lib.hid hT
  clear h1 hB1 hs1 hgk hD hTb hC hT hb0 HTT
  have b0 : Below w1.heap.size w1 w1.drew := below_drewN (Below.refl _ _) 1
  have HTD := Lib.hid (show ∀ W, Below w1.heap.size w1 W → Calls Tryd.prog 83 #[.slice At nt ct] W (SlEnd w1 W (tabB tabs)) from fun W hW =>
    sizes_any w1 W hW At nt ct tabs HT1.out.len.out (by have := HT1.out.len.out; have := HTL.out; omega) (HT1.out.row.below hW))
  have HLN := Lib.hid (show ∀ W, Below w1.heap.size w1 W → Calls Tryd.prog 82 #[.int .i64 lo, .int .i64 hi] W (SlEnd w1 W (le lo 2 ++ le hi 2)) from fun W hW => lens_any w1 W hW lo hi)
  go_region_held3 (fun W => W.cell? ⟨gk, 0, none⟩ = some (.int .i64 lo) ∧ W.cell? ⟨gk, 1, none⟩ = some (.int .i64 hi) ∧ W.cell? ⟨gk, 2, none⟩ = some (.slice Ad nd cd) ∧ W.cell? ⟨gk, 3, none⟩ = some (.slice At nt ct) ∧ W.cell? ⟨gk, 4, none⟩ = some (.slice Ac nc cc) ∧ Below w1.heap.size w1 W)
    (first | exact HK.out _ b0 | exact HK.out _ bL | exact HK.out _ bS | exact HK.out _ (bS.alloc bS.size _) | exact HK.out _ (bL.alloc bL.size _))
    (first
      | (go_at_call 82; refine (HLN.out _ (by first | exact b0 | exact bS)).mono ?_; rintro e wL ⟨AL, nL, cL, rfl, hSL, uL, bL⟩)
      | (go_at_call 83; refine (HTD.out _ (by first | exact b0 | exact bL)).mono ?_; rintro e wS ⟨AS, nS, cS, rfl, hSS, uS, bS⟩))
  · have HSL := Lib.hid (show Sl wS AL nL cL (le lo 2 ++ le hi 2) from hSL.up uS)
    have HSS := Lib.hid (show Sl wS AS nS cS (tabB tabs) from hSS)
    have HBE := Lib.hid bS
    have hFB := secs_fb wS AL nL cL (le lo 2 ++ le hi 2) AS nS cS (tabB tabs) Ad nd cd data Ac nc cc code
    have hbx := below_box wS (.cells #[.int .i64 1, .int .i64 0, .slice AL nL cL, .int .i64 2, .int .i64 0, .slice AS nS cS, .int .i64 3, .int .i64 0, .slice Ad nd cd, .int .i64 4, .int .i64 0, .slice Ac nc cc] 135)
    have HX := Lib.hid hbx
    have HFB := Lib.hid hFB
    have HGE := Lib.hid (show w1.heap.size ≤ wS.heap.size from bS.size)
    clear hSL hSS bL bS uL uS hFB hbx b0 HTD HLN HK
    try (rename_i hHeld; clear hHeld)
    obtain ⟨gs, hgs⟩ : ∃ gs, gs = wS.heap.size := ⟨_, rfl⟩
    obtain ⟨wx, hwx⟩ : ∃ wx, wx = wS.alloc (.cells #[.int .i64 1, .int .i64 0, .slice AL nL cL, .int .i64 2, .int .i64 0, .slice AS nS cS, .int .i64 3, .int .i64 0, .slice Ad nd cd, .int .i64 4, .int .i64 0, .slice Ac nc cc] 135) := ⟨_, rfl⟩
    rw [← hwx] at HX HFB ⊢
    rw [← hgs] at HFB HGE ⊢
    have HGS := Lib.hid hgs
    clear hwx hgs
    go_wp2_with (go_at_call 84; refine (delete_any wx gs 4 _ (by decide) (by decide) HFB.out).mono ?_; rintro e w3 ⟨m, F', rfl, hm, hFB, hmap, hT⟩)
    go_ret
    refine ⟨some ⟨gs, 0, none⟩, m, 4, (List.range m).map F', rfl, Lib.hid (by simp), hm, fb_rows hFB m hm, ?_, ?_, ?_⟩
    all_goals
      have hbe : Below wS.heap.size wS w3 := HX.out.trans (hT.below (by have := HGS.out; omega) HX.out.size)
      have hbe1 : Below w1.heap.size w1 w3 := HBE.out.trans (hbe.mono (by have := HGE.out; have := HGS.out; omega))
      have hall : ∀ s ∈ (List.range 4).map (F4 ⟨1, 0, AL, nL, cL, le lo 2 ++ le hi 2⟩ ⟨2, 0, AS, nS, cS, tabB tabs⟩ ⟨3, 0, Ad, nd, cd, data⟩ ⟨4, 0, Ac, nc, cc, code⟩), Sl w3 s.A s.n s.c s.L := by
        intro s hs
        have h4 : (List.range 4).map (F4 ⟨1, 0, AL, nL, cL, le lo 2 ++ le hi 2⟩ ⟨2, 0, AS, nS, cS, tabB tabs⟩ ⟨3, 0, Ad, nd, cd, data⟩ ⟨4, 0, Ac, nc, cc, code⟩) = [⟨1, 0, AL, nL, cL, le lo 2 ++ le hi 2⟩, ⟨2, 0, AS, nS, cS, tabB tabs⟩, ⟨3, 0, Ad, nd, cd, data⟩, ⟨4, 0, Ac, nc, cc, code⟩] := rfl
        rw [h4] at hs
        simp only [List.mem_cons, List.not_mem_nil, or_false] at hs
        rcases hs with rfl | rfl | rfl | rfl
        · exact HSL.out.up hbe
        · exact HSS.out.up hbe
        · exact HD1.out.up hbe1
        · exact HC1.out.up hbe1
    · rw [hmap, filter_map _ hall]; rfl
    · intro s hs
      rw [hmap] at hs
      exact hall s (List.mem_filter.1 hs).1
    · exact HB1.out.trans (hbe1.mono HB1.out.size)
end Go.Proofs.YtlodoinmippebaaDoor.Pak
/- Package pack: sections written, and how many bytes they are. -/
namespace Go.Proofs.YtlodoinmippebaaDoor.Pak
open Go.ChangeShapes Go.WideShapes Go.ChangeAt Go.RowKit
set_option linter.unusedVariables false
set_option linter.unusedSimpArgs false
set_option maxRecDepth 100000
def szs (l : List Sc) : Nat := (l.map fun s => 4 + s.n).sum
theorem szs_cons (s : Sc) (t : List Sc) : szs (s :: t) = 4 + s.n + szs t := by unfold szs; rw [List.map_cons, List.sum_cons]
theorem szs_le (l : List Sc) (h : ∀ s ∈ l, s.n ≤ 140737488355328) : szs l ≤ l.length * 140737488355332 := by
  induction l with
  | nil => exact Nat.le_refl _
  | cons s t ih =>
    rw [szs_cons, List.length_cons, Nat.succ_mul]
    have h1 := h s (by simp)
    have h2 := ih fun x hx => h x (by simp [hx])
    omega
set_option maxHeartbeats 2000000 in
theorem size_any (w : World) (A : Option Addr) (m c : Nat) (l : List Sc) (hL : Hid (l.length = m)) (hm : m ≤ 4) (hA : RowsAt w A 3 secF l) (hs : ∀ s ∈ l, s.n ≤ 140737488355328) :
    Calls Tryd.prog 54 #[.slice A m c] w (RetB w (.int .i64 (8 + szs l : Nat))) := by
  have HL := hL
  have HA := Lib.hid hA
  have HZ := Lib.hid hs
  have HTOT := Lib.hid (show 8 + szs l ≤ 1000000000000000 by have := szs_le l hs; have := hL.out; omega)
  clear hL hA hs
  go_enter Tryd.func54, Tryd.ntmps54
  go_wp2_with fail
  go_loopw [3, 5, 8, 9, 10, 11, 12, 13, 14, 15, 16, 17, 18] (fun a3 _ a8 _ _ _ _ _ _ _ _ _ _ wr => ∃ (j x : Nat), a3 = .int .i64 x ∧ a8 = .int .i64 j ∧ j ≤ m ∧ Hid (x + szs (l.drop j) = 8 + szs l) ∧ Below w.heap.size w wr) (fun _ _ a8 _ _ _ _ _ _ _ _ _ _ _ => (m - intOf a8).toNat)
  case atStart => exact ⟨0, 8, rfl, rfl, Nat.zero_le _, Lib.hid rfl, Below.refl _ _⟩
  case round =>
    obtain ⟨j, x, rfl, rfl, hj, HE, hB⟩ := hrel
    have HB := Lib.hid hB
    clear hB
    by_cases hlt : j < m
    · have hlt' : (j : Int) < m := by omega
      obtain ⟨s, hs, hdr⟩ := drop_cons (l := l) (j := j) (by have := HL.out; omega)
      rw [hdr, szs_cons] at HE
      have hxb : x + (4 + s.n) ≤ 1000000000000000 := by have := HE.out; have := HTOT.out; omega
      obtain ⟨b, off, rfl, hbl, hcell⟩ := (HA.out.below HB.out) (by have := HL.out; omega)
      have HX := Lib.hid (hcell j s hs)
      clear hdr hcell hs
      obtain ⟨kd, at_, As, ns, cs, Ls⟩ := s
      simp only at hxb HE
      obtain ⟨X, hX⟩ : ∃ X, X = secF ⟨kd, at_, As, ns, cs, Ls⟩ := ⟨_, rfl⟩
      rw [← hX] at HX
      have HX1 := Lib.hid (show ∀ q, q < 3 → (X q).oneCell' = true by rw [hX]; exact secF_one _)
      have HXX := Lib.hid hX
      clear hX
      go_upto_region 5 with (first
        | (refine wpList_load_cells rfl 135 _ rfl b (off + j * 3) rfl 3 X _ HX.out Tryd.underlying135 rfl sizeSec ?_)
        | (refine wpList_alloc_seg rfl 135 rfl 3 (secF Sc.zero) zeroSec ?_; intro w2 h2 hB2 hs2)
        | (refine wpList_store_all rfl 135 _ _ rfl wr.heap.size 135 3 _ X rfl rfl h2 sizeSec HX1.out ?_; intro w3 h3 hT3 hs3))
      obtain ⟨gb, hgb⟩ : ∃ gb, gb = wr.heap.size := ⟨_, rfl⟩
      have hbw : Below wr.heap.size wr w3 := hB2.trans (hT3.below (Nat.le_refl _) hB2.size)
      rw [← hgb] at h3 ⊢
      have y2 : w3.cell? ⟨gb, 2, none⟩ = some (.slice As ns cs) := by rw [h3.cell 2 (by decide), HXX.out]; rfl
      have HB3 := Lib.hid (HB.out.trans (hbw.mono HB.out.size))
      have HE2 := Lib.hid (show (x + (4 + ns)) + szs (l.drop (j + 1)) = 8 + szs l by rw [← HE.out]; omega)
      clear h2 hB2 h3 hT3 hs2 hs3 hgb hbw HX HXX HX1 HB HE
      go_wp2_with fail
      go_roundw
      case rel => exact ⟨j + 1, x + (4 + ns), by go_num, by go_num, by omega, HE2, HB3.out⟩
      case measure => simp [intOf]; omega
    · obtain rfl : j = m := by omega
      have HE2 := Lib.hid (show x = 8 + szs l by rw [← HE.out, List.drop_of_length_le (by have := HL.out; omega)]; exact (Nat.add_zero _).symm)
      clear hlt HE
      go_wp2_with fail
      go_ret
      exact ⟨by rw [← HE2.out]; rfl, HB.out⟩
def secS (s : Sc) : List Int := le s.kind 1 ++ (le s.n 3 ++ s.L)
def bodyS (l : List Sc) : List Int := mark ++ l.flatMap secS
abbrev markS : ByteArray := { data := #[87, 80, 75, 49] }
theorem mark_cells : Lib.strCells markS = mark.map (Value.int .u8) := by kernel_rfl
theorem mark_size : markS.size = 4 := by kernel_rfl
theorem append_mark {P : Program} (hu : P.underlying 22 = some (.slice 5)) (hs : P.underlying 9 = some .string) (hinf : (P.info? 5).map (fun i => (i.zero, i.size, i.bytes)) = some (some (.int .u8 0), 1, 1)) (w : World) {ops : Array Oper} {rest : List Oper} {o : Oper} {a : Act} {Q : Exit → Act → World → Prop} (hgd : o.guard = none) (sl x : Operand)
    (ho : o.op = .call { callee := .builtin .append, args := #[sl, x], argTypes := #[22, 9] })
    (base : Nat) (v : Value) (hv : a.eval sl = v) (hown : OwnB w base v []) (hx : a.eval x = .string markS) (hbase : base ≤ w.heap.size)
    (h : ∀ v' w', OwnB w' base v' mark → UT base w w' → wpList P ops Q rest (a.put o.dst v') w') : wpList P ops Q (o :: rest) a w := by
  obtain ⟨i0, hi, hz0, hz1, hz2⟩ := info_parts hinf
  refine Lib.wpList_append_own_string w hgd sl x 22 9 ho base 5 i0 hu hs hi hz0 hz1 hz2 v 0 [] hv hown markS hx (by rw [mark_size]; unfold maxLen; decide) (by rw [mark_size]; decide) hbase ?_
  intro v' w' h1 h2 _
  refine h v' w' ?_ (UT.grown h2 hown hbase)
  rw [mark_cells, mark_size] at h1
  exact h1
theorem flat_bytes (l : List Sc) (h : ∀ s ∈ l, Bytes s.L) : Bytes (l.flatMap secS) := by
  intro x hx
  obtain ⟨s, hs, hx⟩ := List.mem_flatMap.1 hx
  exact ((le_bytes 1 s.kind).app ((le_bytes 3 _).app (h s hs))) x hx
theorem mark_bytes : Bytes mark := by unfold mark; intro x hx; simp at hx; unfold IsB; omega
set_option maxHeartbeats 4000000 in
theorem written_any (w : World) (A : Option Addr) (m c : Nat) (l : List Sc) (n : Nat) (hL : Hid (l.length = m)) (hm : m ≤ 4) (hA : RowsAt w A 3 secF l) (hs : ∀ s ∈ l, Sl w s.A s.n s.c s.L ∧ Bytes s.L) (hn : n ≤ 131072) (hlen : (bodyS l).length ≤ 1048576) :
    Calls Tryd.prog 55 #[.slice A m c, .int .i64 n] w fun e w' => ∃ v, e = .returned v ∧ OwnB w' w.heap.size v (bodyS l ++ le (sumN (bodyS l)) 4) ∧ Below w.heap.size w w' := by
  have HL := hL
  have HA := Lib.hid hA
  have HZ := Lib.hid hs
  have HLN := Lib.hid hlen
  clear hL hA hs hlen
  obtain ⟨i0, hi0, hz0, hz1, hz2⟩ := info_parts (P := Tryd.prog) byte_info
  obtain ⟨w1, hmk, hown, hgr⟩ := run_make_own (P := Tryd.prog) w w.heap.size 22 5 i0 (.int .u8 0) 1 Tryd.underlying22 hi0 hz0 hz1 .i64 .i64 n (by rw [hz2]; omega) (by unfold maxLen; omega) (Nat.le_refl _)
  have HU1 := Lib.hid (show UT w.heap.size w w1 from ⟨(Below.refl _ _).grown hgr (Nat.le_refl _) (fun g hg => by cases hg), fun k t cs hb _ => (hgr.block k hb.lt (by simp)).trans hb⟩)
  have HO1 := Lib.hid (show OwnB w1 w.heap.size (.slice (some ⟨w.heap.size, 0, none⟩) 0 n) [] from hown)
  have HS1 := Lib.hid hgr.size
  clear hown hgr hi0 hz0 hz1 hz2
  go_enter Tryd.func55, Tryd.ntmps55
  go_upto_region 2 with (at_builtin; (refine append_mark Tryd.underlying22 Tryd.underlying9 byte_info _ rfl (.tmp 9) _ rfl w.heap.size _ rfl HO1.out rfl HS1.out ?_; intro v2 w2 hown2 hU2))
  have HU2 := Lib.hid (HU1.out.trans hU2)
  have HO2 := Lib.hid hown2
  clear hown2 hU2 HU1 HO1 HS1 hmk
  go_wp2_with fail
  go_loopw [5, 7, 13, 14, 15, 16, 17, 18, 19, 20, 21, 22, 23, 24, 25, 26, 27, 28, 29, 30] (fun a5 _ a13 _ _ _ _ _ _ _ _ _ _ _ _ _ _ _ _ _ wr => ∃ (j : Nat) (M : List Int), a13 = .int .i64 j ∧ j ≤ m ∧ Hid (M ++ (l.drop j).flatMap secS = bodyS l) ∧ OwnB wr w.heap.size a5 M ∧ Below w.heap.size w wr) (fun _ _ a13 _ _ _ _ _ _ _ _ _ _ _ _ _ _ _ _ _ _ => (m - intOf a13).toNat)
  case atStart => exact ⟨0, mark, rfl, Nat.zero_le _, Lib.hid rfl, HO2.out, HU2.out.below⟩
  case round =>
    obtain ⟨j, M, rfl, hj, HE, hO, hB⟩ := hrel
    clear HO2 HU2
    have HO := Lib.hid hO
    have HB := Lib.hid hB
    clear hO hB
    by_cases hlt : j < m
    · have hlt' : (j : Int) < m := by omega
      obtain ⟨s, hs, hdr⟩ := drop_cons (l := l) (j := j) (by have := HL.out; omega)
      rw [hdr, List.flatMap_cons] at HE
      have hsm : s ∈ l := List.mem_of_getElem? hs
      obtain ⟨b, off, rfl, hbl, hcell⟩ := (HA.out.below HB.out) (by have := HL.out; omega)
      have HX := Lib.hid (hcell j s hs)
      have HSl := Lib.hid (HZ.out s hsm).1
      have HLEN := Lib.hid (show M.length + (4 + s.L.length) ≤ 1048576 by
        have h1 := congrArg List.length HE.out
        unfold secS at h1
        simp only [List.length_append, le_len] at h1
        have h2 := HLN.out
        omega)
      clear hdr hcell hs hsm
      obtain ⟨kd, at_, As, ns, cs, Ls⟩ := s
      simp only at HE HSl HLEN
      obtain ⟨X, hX⟩ : ∃ X, X = secF ⟨kd, at_, As, ns, cs, Ls⟩ := ⟨_, rfl⟩
      rw [← hX] at HX
      have HX1 := Lib.hid (show ∀ q, q < 3 → (X q).oneCell' = true by rw [hX]; exact secF_one _)
      have HXX := Lib.hid hX
      clear hX
      go_upto_region 5 with (first
        | (refine wpList_load_cells rfl 135 _ rfl b (off + j * 3) rfl 3 X _ HX.out Tryd.underlying135 rfl sizeSec ?_)
        | (refine wpList_alloc_seg rfl 135 rfl 3 (secF Sc.zero) zeroSec ?_; intro w2' h2 hB2 hs2)
        | (refine wpList_store_all rfl 135 _ _ rfl wr.heap.size 135 3 _ X rfl rfl h2 sizeSec HX1.out ?_; intro w3 h3 hT3 hs3))
      obtain ⟨gb, hgb⟩ : ∃ gb, gb = wr.heap.size := ⟨_, rfl⟩
      have hbw : Below wr.heap.size wr w3 := hB2.trans (hT3.below (Nat.le_refl _) hB2.size)
      rw [← hgb] at h3 ⊢
      have y0 : w3.cell? ⟨gb, 0, none⟩ = some (.int .i64 kd) := by rw [h3.cell 0 (by decide), HXX.out]; rfl
      have HF3 := Lib.hid h3
      have HO3 := Lib.hid (ownB_up HO.out hbw)
      have HB3 := Lib.hid (HB.out.trans (hbw.mono HB.out.size))
      clear h2 hB2 h3 hT3 hs2 hs3 hgb hbw HX HX1 HO HB
      obtain ⟨A3, c3, hv3, -⟩ := HO3.out.form
      subst hv3
      obtain ⟨q, hq⟩ : ∃ q, q = M.length := ⟨_, rfl⟩
      rw [← hq] at HO3 ⊢
      clear hq
      go_upto_region 6 with (go_at_call 86; refine (put_any w3 w.heap.size _ M kd 1 HO3.out HB3.out.size (by have := HLEN.out; omega)).mono ?_; rintro e w4 ⟨v4, rfl, hO4, hU4⟩)
      have hF4 := hU4.fb HF3.out (by decide)
      have y2 : w4.cell? ⟨gb, 2, none⟩ = some (.slice As ns cs) := by rw [hF4.cell 2 (by decide), HXX.out]; rfl
      have HF4 := Lib.hid hF4
      have HO4 := Lib.hid hO4
      have HB4 := Lib.hid (HB3.out.trans hU4.below)
      clear hF4 hO4 hU4 y0 HF3 HO3 HB3
      obtain ⟨A4, c4, hv4, -⟩ := HO4.out.form
      subst hv4
      obtain ⟨q4, hq4⟩ : ∃ q, q = (M ++ le kd 1).length := ⟨_, rfl⟩
      rw [← hq4] at HO4 ⊢
      clear hq4
      go_upto_region 7 with (go_at_call 86; refine (put_any w4 w.heap.size _ (M ++ le kd 1) ns 3 HO4.out HB4.out.size (by have := HLEN.out; simp [le_len]; omega)).mono ?_; rintro e w5 ⟨v5, rfl, hO5, hU5⟩)
      have hF5 := hU5.fb HF4.out (by decide)
      have y3 : w5.cell? ⟨gb, 2, none⟩ = some (.slice As ns cs) := by rw [hF5.cell 2 (by decide), HXX.out]; rfl
      have HO5 := Lib.hid hO5
      have HB5 := Lib.hid (HB4.out.trans hU5.below)
      have HSl5 := Lib.hid (HSl.out.up HB5.out)
      have HLE5 := Lib.hid (show ((M ++ le kd 1) ++ le (ns : Int) 3).length + ns ≤ 140737488355328 by
        have := HLEN.out; have := HSl.out.len.out; simp [le_len]; omega)
      have HE5 := Lib.hid (show (((M ++ le kd 1) ++ le (ns : Int) 3) ++ Ls) ++ (l.drop (j + 1)).flatMap secS = bodyS l by
        rw [← HE.out]; unfold secS; simp only [List.append_assoc])
      have HS5 := Lib.hid HB5.out.size
      clear hF5 hO5 hU5 y2 HF4 HO4 HB4 HE HXX
      obtain ⟨A5, c5, hv5, -⟩ := HO5.out.form
      subst hv5
      obtain ⟨q5, hq5⟩ : ∃ q, q = ((M ++ le kd 1) ++ le (ns : Int) 3).length := ⟨_, rfl⟩
      rw [← hq5] at HO5 ⊢
      clear hq5
      go_wp2_with (at_builtin; (refine append_bytesG Tryd.underlying22 byte_info _ rfl (.tmp 26) (.tmp 28) rfl w.heap.size _ _ rfl HO5.out As ns cs Ls rfl HSl5.out.len.out HSl5.out.byt HLE5.out HS5.out ?_; intro v9 w9 hown9 hg9; have hUT := UT.grown hg9 HO5.out HS5.out))
      go_roundw
      case rel => exact ⟨j + 1, _, by go_num, by omega, HE5, hown9, HB5.out.trans hUT.below⟩
      case measure => simp [intOf]; omega
    · obtain rfl : j = m := by omega
      have HE2 := Lib.hid (show M = bodyS l by rw [← HE.out, List.drop_of_length_le (by have := HL.out; omega)]; exact (List.append_nil _).symm)
      have HBY := Lib.hid (show Bytes M by rw [HE2.out]; exact mark_bytes.app (flat_bytes l fun s hs => (HZ.out s hs).2))
      have HML := Lib.hid (show M.length ≤ 1048576 by rw [HE2.out]; exact HLN.out)
      obtain ⟨A3, n3, c3, rfl, hSl⟩ := own_full HO.out
      have HSl := Lib.hid hSl
      have hsum := sumN_lt M
      clear hlt HE hSl
      go_wp2_with (first
        | (go_at_call 78; refine (sum_any _ A3 n3 c3 M HSl.out.len.out (by have := HSl.out.len.out; have := HML.out; omega) HBY.out HSl.out.byt).mono ?_; rintro e u ⟨rfl, rfl⟩)
        | (go_at_call 86; refine (put_any _ w.heap.size _ M (sumN M) 4 HO.out HB.out.size (by have := HML.out; omega)).mono ?_; rintro e w6 ⟨v6, rfl, hO6, hU6⟩; rw [HE2.out] at hO6))
      go_ret
      exact ⟨_, rfl, hO6, HB.out.trans hU6.below⟩
end Go.Proofs.YtlodoinmippebaaDoor.Pak
/- Package pack: Encode. -/
namespace Go.Proofs.YtlodoinmippebaaDoor.Pak
open Go.ChangeShapes Go.WideShapes Go.ChangeAt Go.RowKit
set_option linter.unusedVariables false
set_option linter.unusedSimpArgs false
set_option maxRecDepth 100000
def secP (x : Int × List Int) : List Int := le x.1 1 ++ (le x.2.length 3 ++ x.2)
theorem secP_sec (k : Int) (h : 0 ≤ k ∧ k < 256) (c : List Int) : (if full (k, c) = true then secP (k, c) else []) = sec k c := by
  unfold full secP sec
  by_cases e : c = []
  · subst e; rfl
  · simp only [e, decide_false, Bool.not_false, if_true, if_false]
    show k % 256 :: (le c.length 3 ++ c) = _
    rw [Int.emod_eq_of_lt h.1 h.2]
theorem flat_filter (L : List (Int × List Int)) : (L.filter full).flatMap secP = L.flatMap fun x => if full x = true then secP x else [] := by
  induction L with
  | nil => rfl
  | cons x t ih =>
    rw [List.filter_cons, List.flatMap_cons, ← ih]
    split
    · rw [List.flatMap_cons]
    · rfl
theorem flat_secS {w : World} : ∀ l : List Sc, (∀ s ∈ l, Sl w s.A s.n s.c s.L) → l.flatMap secS = (l.map fun s => (s.kind, s.L)).flatMap secP
  | [], _ => rfl
  | s :: t, h => by
    rw [List.flatMap_cons, List.map_cons, List.flatMap_cons, flat_secS t fun x hx => h x (by simp [hx])]
    unfold secS secP
    rw [(h s (by simp)).len.out]
theorem szs_len {w : World} : ∀ l : List Sc, (∀ s ∈ l, Sl w s.A s.n s.c s.L) → szs l = (l.flatMap secS).length
  | [], _ => rfl
  | s :: t, h => by
    rw [szs_cons, List.flatMap_cons, List.length_append, szs_len t fun x hx => h x (by simp [hx])]
    unfold secS
    rw [List.length_append, List.length_append, le_len, le_len, (h s (by simp)).len.out]
    omega
theorem body_secs {w : World} {k : Pk} {l : List Sc} (h : ∀ s ∈ l, Sl w s.A s.n s.c s.L) (e : l.map (fun s => (s.kind, s.L)) = (list4 k).filter full) : bodyS l = bodyW k ∧ 8 + szs l = (encW k).length := by
  have h1 : l.flatMap secS = sec 1 (le k.lo 2 ++ le k.hi 2) ++ (sec 2 (tabB k.tabs) ++ (sec 3 k.data ++ sec 4 k.code)) := by
    rw [flat_secS l h, e, flat_filter]
    unfold list4
    simp only [List.flatMap_cons, List.flatMap_nil, List.append_nil]
    rw [secP_sec 1 (by decide), secP_sec 2 (by decide), secP_sec 3 (by decide), secP_sec 4 (by decide)]
  have h2 : bodyS l = bodyW k := by unfold bodyS bodyW; rw [h1]
  refine ⟨h2, ?_⟩
  rw [szs_len l h, enc_len, ← h2]
  unfold bodyS
  rw [List.length_append]
  show 8 + _ = 4 + _ + 4
  omega
theorem secs_bytes {k : Pk} {l : List Sc} (hd : Bytes k.data) (hc : Bytes k.code) (e : l.map (fun s => (s.kind, s.L)) = (list4 k).filter full) : ∀ s ∈ l, Bytes s.L := by
  intro s hs
  have h1 : (s.kind, s.L) ∈ (list4 k).filter full := by rw [← e]; exact List.mem_map.2 ⟨s, hs, rfl⟩
  have h2 := (List.mem_filter.1 h1).1
  unfold list4 at h2
  simp only [List.mem_cons, List.not_mem_nil, or_false, Prod.mk.injEq] at h2
  rcases h2 with ⟨_, e⟩ | ⟨_, e⟩ | ⟨_, e⟩ | ⟨_, e⟩
  · rw [e]; exact (le_bytes _ _).app (le_bytes _ _)
  · rw [e]; exact tabB_bytes _
  · rw [e]; exact hd
  · rw [e]; exact hc
theorem secs_small {k : Pk} {w : World} {l : List Sc} (h0 : sizesE k.lo k.hi k.tabs k.data.length = 0) (hc : k.code.length ≤ 140737488355328) (h : ∀ s ∈ l, Sl w s.A s.n s.c s.L) (e : l.map (fun s => (s.kind, s.L)) = (list4 k).filter full) : ∀ s ∈ l, s.n ≤ 140737488355328 := by
  intro s hs
  obtain ⟨_, _, _, ht, _, hd⟩ := sizes_zero h0
  have h1 : (s.kind, s.L) ∈ (list4 k).filter full := by rw [← e]; exact List.mem_map.2 ⟨s, hs, rfl⟩
  have h2 := (List.mem_filter.1 h1).1
  have h3 := (h s hs).len.out
  unfold list4 at h2
  simp only [List.mem_cons, List.not_mem_nil, or_false, Prod.mk.injEq] at h2
  rcases h2 with ⟨_, e⟩ | ⟨_, e⟩ | ⟨_, e⟩ | ⟨_, e⟩
  · rw [← h3, e, lens_len]; decide
  · rw [← h3, e, tabB_len]; omega
  · rw [← h3, e]; omega
  · rw [← h3, e]; exact hc
theorem OwnB_base {w : World} {base base' : Nat} {v : Value} {L : List Int} (h : OwnB w base v L) (hb : base' ≤ base) : OwnB w base' v L := by
  refine ⟨h.1, ?_⟩
  rcases h.2 with h1 | ⟨g, cap, cur, hv, hg, h1⟩
  · exact .inl h1
  · exact .inr ⟨g, cap, cur, hv, by omega, h1⟩
def Encoded (w : World) (k : Pk) (e : Ending) (w' : World) : Prop :=
  Below w.heap.size w w' ∧ ∃ v, e = .returned (.tuple #[v, .int .i64 (encE k)]) ∧ (if encE k = 0 then OwnB w' w.heap.size v (encW k) else v = .slice none 0 0)
theorem sizePk : (Tryd.prog.info? 25).map (·.size) = some 5 := by kernel_rfl
set_option maxHeartbeats 4000000 in
theorem encode_any (w : World) (k : Pk) (vd vt vc : Value) (hk : PkAt w vd vt vc k) (hd : Bytes k.data) (hc : Bytes k.code) (hcl : k.code.length ≤ 140737488355328) (htl : k.tabs.length ≤ 1152921504606846976) :
    Calls Tryd.prog 28 #[.agg (arr 5 (pkF k.lo k.hi vd vt vc))] w (Encoded w k) := by
  have HP := Lib.hid hk
  have HD := Lib.hid hd
  have HC := Lib.hid hc
  have HCL := Lib.hid hcl
  have HTL := Lib.hid htl
  obtain ⟨⟨Ad, nd, cd, rfl, hDa⟩, ⟨At, nt, ct, rfl, hTb⟩, Ac, nc, cc, rfl, hCo⟩ := hk
  have HND := Lib.hid hDa.len.out
  have HTB := Lib.hid hTb
  obtain ⟨lo, hi, data, tabs, code⟩ := k
  simp only at HP HD HC HCL HTL HND HTB ⊢
  clear hd hc hcl htl hDa hTb hCo
  obtain ⟨T, hT⟩ : ∃ T, T = pkF lo hi (.slice Ad nd cd) (.slice At nt ct) (.slice Ac nc cc) := ⟨_, rfl⟩
  rw [← hT]
  have HTT := Lib.hid hT
  clear hT
  go_enter Tryd.func28, Tryd.ntmps28
  go_upto_region 1 with (refine wpList_box_seg rfl _ (.tmp 0) rfl 5 T rfl ?_; intro w1 h1 hB1 hs1)
  obtain ⟨gk, hgk⟩ : ∃ gk, gk = w.heap.size := ⟨_, rfl⟩
  rw [← hgk] at h1 ⊢
  have x0 : w1.cell? ⟨gk, 0, none⟩ = some (.int .i64 lo) := by rw [h1.cell 0 (by decide), HTT.out]; rfl
  have x1 : w1.cell? ⟨gk, 1, none⟩ = some (.int .i64 hi) := by rw [h1.cell 1 (by decide), HTT.out]; rfl
  have x2 : w1.cell? ⟨gk, 2, none⟩ = some (.slice Ad nd cd) := by rw [h1.cell 2 (by decide), HTT.out]; rfl
  have x3 : w1.cell? ⟨gk, 3, none⟩ = some (.slice At nt ct) := by rw [h1.cell 3 (by decide), HTT.out]; rfl
  have HF1 := Lib.hid h1
  have HB1 := Lib.hid hB1
  clear h1 hB1 hs1 hgk
  obtain ⟨ee, hee⟩ : ∃ ee, ee = sizesE lo hi tabs nd := ⟨_, rfl⟩
  have HEE := Lib.hid hee
  have HWR := Lib.hid (wrong_any w1 lo hi At Ad nt ct nd cd tabs HTB.out.len.out (by have := HTB.out.len.out; have := HTL.out; omega) (HTB.out.row.below HB1.out))
  rw [← hee] at HWR
  clear hee
  go_upto_region 2 with (go_at_call 33; refine HWR.out.mono ?_; rintro e w2 ⟨rfl, hB2⟩)
  have HF2 := Lib.hid (HF1.out.up hB2)
  have HB2 := Lib.hid (HB1.out.trans (hB2.mono HB1.out.size))
  clear hB2 HF1 HB1 x0 x1 x2 x3 HWR
  by_cases h0 : ee = 0
  · have t0 : (ee != 0) = false := by rw [h0]; rfl
    have HSZ := Lib.hid (show sizesE lo hi tabs data.length = 0 by rw [HND.out, ← HEE.out, h0])
    clear h0 HEE
    have HT8 := Lib.hid (sizes_zero HSZ.out).2.2.2.1
    go_upto_region 5 with (first
      | (refine wpList_load_all rfl 25 _ rfl gk rfl 25 5 T _ HF2.out Tryd.underlying25 rfl sizePk ?_)
      | (go_at_call 53; rw [HTT.out]; refine (sections_any w2 ⟨lo, hi, data, tabs, code⟩ _ _ _ (HP.out.up HB2.out) HT8.out).mono ?_; rintro e w3 ⟨A3, m3, c3, l, rfl, hl, hm3, hrow, hmap, hsl, hB3⟩; rw [← HTT.out]))
    have HL := hl
    have HROW := Lib.hid hrow
    have HMAP := Lib.hid hmap
    have HSL := Lib.hid hsl
    have HBS := Lib.hid (body_secs hsl hmap)
    have HSM := Lib.hid (secs_small (k := ⟨lo, hi, data, tabs, code⟩) HSZ.out HCL.out hsl hmap)
    have HBY := Lib.hid (secs_bytes (k := ⟨lo, hi, data, tabs, code⟩) HD.out HC.out hmap)
    have HB3 := Lib.hid (HB2.out.trans (hB3.mono HB2.out.size))
    clear hl hrow hmap hsl hB3 HF2 HB2
    obtain ⟨z, hz⟩ : ∃ z, z = 8 + szs l := ⟨_, rfl⟩
    have HZ := Lib.hid hz
    have hzb : z ≤ 1000000000000000 := by have := szs_le l HSM.out; have := HL.out; omega
    have HSI := Lib.hid (size_any w3 A3 m3 c3 l HL hm3 HROW.out HSM.out)
    rw [← hz] at HSI
    clear hz
    go_upto_region 6 with (go_at_call 54; refine HSI.out.mono ?_; rintro e w4 ⟨rfl, hB4⟩)
    have HB4 := Lib.hid (HB3.out.trans (hB4.mono HB3.out.size))
    have HROW4 := Lib.hid (HROW.out.below hB4)
    have HSL4 := Lib.hid (fun s hs => ((HSL.out s hs).up hB4))
    clear hB4 HSI HROW HSL HB3
    by_cases hbig : 131072 < z
    · have t1 : decide (131072 < (z : Int)) = true := decide_eq_true (by omega)
      have HENC := Lib.hid (show encE ⟨lo, hi, data, tabs, code⟩ = 2 by
        unfold encE
        rw [if_neg (by rw [HSZ.out]; simp), if_pos (by rw [← HBS.out.2, ← HZ.out]; exact hbig)])
      clear hbig
      go_wp2_with fail
      go_ret2
      exact ⟨HB4.out, _, by rw [HENC.out]; rfl, by rw [HENC.out, if_neg (by decide)]; rfl⟩
    · have t1 : decide (131072 < (z : Int)) = false := decide_eq_false (by omega)
      have HENC := Lib.hid (show encE ⟨lo, hi, data, tabs, code⟩ = 0 by
        unfold encE
        rw [if_neg (by rw [HSZ.out]; simp), if_neg (by rw [← HBS.out.2, ← HZ.out]; exact hbig)])
      have hz2 : z ≤ 131072 := by omega
      clear hbig hzb
      go_wp2_with (go_at_call 55; refine (written_any w4 A3 m3 c3 l z HL hm3 HROW4.out (fun s hs => ⟨HSL4.out s hs, HBY.out s hs⟩) hz2 (by rw [HBS.out.1]; have h1 := HBS.out.2; have h2 := enc_len ⟨lo, hi, data, tabs, code⟩; have := HZ.out; omega)).mono ?_; rintro e w5 ⟨v5, rfl, hO5, hB5⟩)
      have HO5 := Lib.hid hO5
      have HB5 := Lib.hid hB5
      clear hO5 hB5
      obtain ⟨A5, n5, c5, hv5, -⟩ := own_full HO5.out
      subst hv5
      go_ret2
      refine ⟨HB4.out.trans (HB5.out.mono HB4.out.size), _, by rw [HENC.out]; rfl, ?_⟩
      rw [if_pos HENC.out]
      have h6 := HO5.out
      rw [HBS.out.1] at h6
      exact OwnB_base h6 HB4.out.size
  · have t0 : (ee != 0) = true := by rw [bne_iff_ne]; exact h0
    have HENC := Lib.hid (show encE ⟨lo, hi, data, tabs, code⟩ = ee by
      unfold encE
      rw [if_pos (by rw [HND.out, ← HEE.out]; exact h0), HND.out, ← HEE.out])
    have HNZ := Lib.hid h0
    clear h0 HEE
    go_wp2_with fail
    go_ret2
    exact ⟨HB2.out, _, by rw [HENC.out]; rfl, by rw [HENC.out, if_neg HNZ.out]; rfl⟩
end Go.Proofs.YtlodoinmippebaaDoor.Pak
/- Package pack: results that lie in variables; the small functions of the reader. -/
namespace Go.Proofs.YtlodoinmippebaaDoor.Pak
open Go.ChangeShapes Go.WideShapes Go.ChangeAt Go.RowKit
set_option linter.unusedVariables false
set_option linter.unusedSimpArgs false
set_option maxRecDepth 100000
theorem load_seg {P : Program} (w : World) (g : Nat) (t ty : TypeId) (n : Nat) (f : Nat → Value) (d : TypeDesc) (hg : FB w g t n f)
    (hu : P.underlying ty = some d) (hd : (match d with | .struct _ | .array _ _ => true | _ => false) = true) (hi : (P.info? ty).map (·.size) = some n) :
    (loadVar ty ⟨g, 0, none⟩).run P w = .ok (.agg (arr n f)) w := by
  rw [run_loadVar_seg w g 0 t ty n n f d hg (by omega) hu hd hi, arr_congr (g := f) (fun k _ => by rw [Nat.zero_add])]
theorem result_cc {P : Program} {fn : Func} {p q : Tmp} {ty ty2 : TypeId} (h : fn.results = #[.cell p ty, .cell q ty2]) (tmps : Array Value) (w : World) (g g2 : Nat) (t t2 : TypeId) (n n2 : Nat) (f f2 : Nat → Value) (d d2 : TypeDesc)
    (hp : tmps.getD p undef = .pointer (some ⟨g, 0, none⟩)) (hg : FB w g t n f) (hu : P.underlying ty = some d) (hd : (match d with | .struct _ | .array _ _ => true | _ => false) = true) (hi : (P.info? ty).map (·.size) = some n)
    (hp2 : tmps.getD q undef = .pointer (some ⟨g2, 0, none⟩)) (hg2 : FB w g2 t2 n2 f2) (hu2 : P.underlying ty2 = some d2) (hd2 : (match d2 with | .struct _ | .array _ _ => true | _ => false) = true) (hi2 : (P.info? ty2).map (·.size) = some n2) :
    (results fn tmps).run P w = .ok (.tuple #[.agg (arr n f), .agg (arr n2 f2)]) w := by
  have hp' : tmps[p]?.getD undef = .pointer (some ⟨g, 0, none⟩) := by simpa using hp
  have hp2' : tmps[q]?.getD undef = .pointer (some ⟨g2, 0, none⟩) := by simpa using hp2
  simp [results, h, hp', hp2', asAddr, load_seg w g t ty n f d hg hu hd hi, load_seg w g2 t2 ty2 n2 f2 d2 hg2 hu2 hd2 hi2]
theorem result_tc {P : Program} {fn : Func} {p q : Tmp} {ty : TypeId} (h : fn.results = #[.tmp p, .cell q ty]) (tmps : Array Value) (w : World) (v : Value) (g : Nat) (t : TypeId) (n : Nat) (f : Nat → Value) (d : TypeDesc)
    (hp : tmps.getD p undef = v) (hq : tmps.getD q undef = .pointer (some ⟨g, 0, none⟩)) (hg : FB w g t n f) (hu : P.underlying ty = some d) (hd : (match d with | .struct _ | .array _ _ => true | _ => false) = true) (hi : (P.info? ty).map (·.size) = some n) :
    (results fn tmps).run P w = .ok (.tuple #[v, .agg (arr n f)]) w := by
  have hp' : tmps[p]?.getD undef = v := by simpa using hp
  have hq' : tmps[q]?.getD undef = .pointer (some ⟨g, 0, none⟩) := by simpa using hq
  simp [results, h, hp', hq', asAddr, load_seg w g t ty n f d hg hu hd hi]
theorem result_ctt {P : Program} {fn : Func} {p q r : Tmp} {ty : TypeId} (h : fn.results = #[.cell p ty, .tmp q, .tmp r]) (tmps : Array Value) (w : World) (v u : Value) (g : Nat) (t : TypeId) (n : Nat) (f : Nat → Value) (d : TypeDesc)
    (hp : tmps.getD p undef = .pointer (some ⟨g, 0, none⟩)) (hg : FB w g t n f) (hu : P.underlying ty = some d) (hd : (match d with | .struct _ | .array _ _ => true | _ => false) = true) (hi : (P.info? ty).map (·.size) = some n)
    (hq : tmps.getD q undef = v) (hr : tmps.getD r undef = u) :
    (results fn tmps).run P w = .ok (.tuple #[.agg (arr n f), v, u]) w := by
  have hp' : tmps[p]?.getD undef = .pointer (some ⟨g, 0, none⟩) := by simpa using hp
  have hq' : tmps[q]?.getD undef = v := by simpa using hq
  have hr' : tmps[r]?.getD undef = u := by simpa using hr
  simp [results, h, hp', hq', hr', asAddr, load_seg w g t ty n f d hg hu hd hi]
/-- a fault: the byte, the error -/
def ftF (a e : Int) : Nat → Value
  | 0 => .int .i64 a
  | _ => .int .i64 e
theorem ftF_one (a e : Int) : ∀ q, q < 2 → (ftF a e q).oneCell' = true := fun q hq => by
  rcases (show q = 0 ∨ q = 1 by omega) with rfl | rfl <;> rfl
theorem sizeFt : (Tryd.prog.info? 94).map (·.size) = some 2 := by kernel_rfl
theorem zeroFt : (Tryd.prog.info? 94).bind (fun i => i.zero.map Value.cells) = some (arr 2 (ftF 0 0)) := by kernel_rfl
theorem ft_arr (a e : Int) : (#[Value.int .i64 a, Value.int .i64 e] : Array Value) = arr 2 (ftF a e) := rfl
/-- the reader: its bytes, the place, the last kind -/
def rdF (A : Option Addr) (n : Nat) (p last : Int) : Nat → Value
  | 0 => .slice A n n
  | 1 => .int .i64 p
  | _ => .int .i64 last
set_option maxHeartbeats 1000000 in
theorem follows_any (last kind : Int) (w : World) : Calls Tryd.prog 107 #[.int .i64 last, .int .i64 kind] w fun e w' => e = .returned (.bool (follows last kind)) ∧ w = w' := by
  go_enter Tryd.func107, Tryd.ntmps107
  unfold follows
  by_cases h0 : last = 0
  · have t0 : (last == 0) = true := by rw [h0]; rfl
    rw [if_pos h0]
    have HH := Lib.hid h0
    clear h0
    have HK := Lib.hid (show (kind == 1) = decide (kind = 1) from rfl)
    go_wp2_with fail
    go_ret
    exact ⟨rfl, rfl⟩
  · have t0 : (last == 0) = false := by rw [beq_eq_false_iff_ne]; exact h0
    rw [if_neg h0]
    clear h0
    cases h1 : decide (last < kind)
    · go_wp2_with fail
      go_ret
      exact ⟨rfl, rfl⟩
    · cases h2 : decide (kind ≤ 4)
      · go_wp2_with fail
        go_ret
        exact ⟨rfl, rfl⟩
      · go_wp2_with fail
        go_ret
        exact ⟨rfl, rfl⟩
set_option maxHeartbeats 2000000 in
theorem uncounted_any (kind n : Int) (hn : 0 ≤ n) (w : World) : Calls Tryd.prog 108 #[.int .i64 kind, .int .i64 n] w fun e w' => e = .returned (.int .i64 (uncounted kind n)) ∧ w = w' := by
  obtain ⟨r, hr⟩ : ∃ r, r = uncounted kind n := ⟨_, rfl⟩
  rw [← hr]
  unfold uncounted at hr
  go_enter Tryd.func108, Tryd.ntmps108
  by_cases h0 : n = 0
  · rw [if_pos (Or.inl h0)] at hr
    have t0 : (n == 0) = true := by rw [h0]; rfl
    subst hr
    clear h0
    go_wp2_with fail
    go_ret
    exact ⟨rfl, rfl⟩
  have t0 : (n == 0) = false := by rw [beq_eq_false_iff_ne]; exact h0
  by_cases k1 : kind = 1
  · subst k1
    by_cases h4 : n = 4
    · subst h4
      rw [if_neg (by decide), if_neg (by decide), if_neg (by decide)] at hr
      subst hr
      clear h0 t0
      go_wp2_with fail
      go_ret
      exact ⟨rfl, rfl⟩
    · rw [if_pos (Or.inr (Or.inl ⟨rfl, h4⟩))] at hr
      have t4 : (n != 4) = true := by rw [bne_iff_ne]; exact h4
      subst hr
      clear h0 h4
      go_wp2_with fail
      go_ret
      exact ⟨rfl, rfl⟩
  have tk1 : (kind == 1) = false := by rw [beq_eq_false_iff_ne]; exact k1
  by_cases k2 : kind = 2
  · subst k2
    by_cases h2 : n % 2 = 0
    · rw [if_neg (by omega)] at hr
      have t2 : (n % 2 != 0) = false := by rw [h2]; rfl
      by_cases h16 : 16 < n
      · rw [if_pos ⟨rfl, h16⟩] at hr
        have t16 : decide (16 < n) = true := decide_eq_true h16
        subst hr
        clear h0 h2 h16 k1
        go_wp2_with fail
        go_ret
        exact ⟨rfl, rfl⟩
      · rw [if_neg (by omega), if_neg (by omega)] at hr
        have t16 : decide (16 < n) = false := decide_eq_false h16
        subst hr
        clear h0 h2 h16 k1
        go_wp2_with fail
        go_ret
        exact ⟨rfl, rfl⟩
    · rw [if_pos (Or.inr (Or.inr ⟨rfl, h2⟩))] at hr
      have t2 : (n % 2 != 0) = true := by rw [bne_iff_ne]; exact h2
      subst hr
      clear h0 h2 k1
      go_wp2_with fail
      go_ret
      exact ⟨rfl, rfl⟩
  have tk2 : (kind == 2) = false := by rw [beq_eq_false_iff_ne]; exact k2
  rw [if_neg (by omega), if_neg (by omega)] at hr
  by_cases k3 : kind = 3
  · subst k3
    by_cases h5 : 4096 < n
    · rw [if_pos ⟨rfl, h5⟩] at hr
      have t5 : decide (4096 < n) = true := decide_eq_true h5
      subst hr
      clear h0 h5 k1 k2
      go_wp2_with fail
      go_ret
      exact ⟨rfl, rfl⟩
    · rw [if_neg (by omega)] at hr
      have t5 : decide (4096 < n) = false := decide_eq_false h5
      subst hr
      clear h0 h5 k1 k2
      go_wp2_with fail
      go_ret
      exact ⟨rfl, rfl⟩
  · have tk3 : (kind == 3) = false := by rw [beq_eq_false_iff_ne]; exact k3
    rw [if_neg (by omega)] at hr
    subst hr
    clear h0 k1 k2 k3
    go_wp2_with fail
    go_ret
    exact ⟨rfl, rfl⟩
end Go.Proofs.YtlodoinmippebaaDoor.Pak
/- Package pack: lists made and copied. -/
namespace Go.Proofs.YtlodoinmippebaaDoor.Pak
open Go.ChangeShapes Go.WideShapes Go.ChangeAt Go.RowKit
set_option linter.unusedVariables false
set_option linter.unusedSimpArgs false
set_option maxRecDepth 100000
section
variable {P : Program}
theorem run_make_seg (w : World) (T e : TypeId) (s bytes : Nat) (z : Nat → Value) (k : Nat) (hu : P.underlying T = some (.slice e)) (hinf : (P.info? e).map (fun i => (i.zero.map Value.cells, i.size, i.bytes)) = some (some (arr s z), s, bytes)) (hs0 : 0 < s)
    (hk : bytes * k ≤ 281474976710656) (hm : k ≤ 9223372036854775807) :
    (Instr.makeSlice T (.int .i64 k) (.int .i64 k)).run P w = .ok (.slice (some ⟨w.heap.size, 0, none⟩) k k) (w.alloc (.cells (arr (k * s) fun q => z (q % s)) e)) := by
  cases hq : P.info? e with
  | none => simp [hq] at hinf
  | some i =>
    simp only [hq, Option.map_some, Option.some.injEq, Prod.mk.injEq] at hinf
    obtain ⟨h1, h2, h3⟩ := hinf
    cases hz : i.zero with
    | none => simp [hz] at h1
    | some zv =>
      have hzc : zv.cells = arr s z := by simpa [hz] using h1
      have h6 : ((bytes * k : Nat) : Int) ≤ 281474976710656 := by omega
      rw [Int.natCast_mul] at h6
      have h := run_make (P := P) w T e i zv hu hq hz .i64 .i64 k k (by omega) (by omega) (by rw [h3]; exact h6) (by omega)
      rw [h, h2]
      have e1 : madeCells zv.cells ((k : Int).toNat * s) = arr (k * s) fun q => z (q % s) := by
        rw [hzc, Int.toNat_natCast]
        refine arr_of _ _ _ (size_madeCells _ _) fun q hq => ?_
        unfold madeCells
        have h4 : q % s < s := Nat.mod_lt _ hs0
        have h5 := arr_get s z (q % s) h4
        simp only [arr_size, Array.getElem?_map, Array.getElem?_range, hq, if_true, Option.map_some]
        rw [Array.getElem!_eq_getD]
        simp [Array.getD, arr_size, h4] at h5 ⊢
        exact h5
      rw [e1, Int.toNat_natCast]
theorem run_copy_cells (w : World) (dT sT ty elem : TypeId) (size g off dLen dCap ga oa sLen sCap m : Nat) (t : TypeId) (N : Nat) (f h : Nat → Value)
    (hu : P.underlying dT = some (.slice elem)) (hsz : (P.info? elem).map (·.size) = some size) (hm : Nat.min sLen dLen = m)
    (hg : FB w g t N f) (hc : ∀ q, q < m * size → w.cell? ⟨ga, oa + q, none⟩ = some (h q)) (h1 : off + m * size ≤ N) (h3 : ∀ q, q < m * size → (h q).oneCell' = true) :
    (Builtin.copy_ #[dT, sT] ty #[.slice (some ⟨g, off, none⟩) dLen dCap, .slice (some ⟨ga, oa, none⟩) sLen sCap]).run P w = .ok (goInt m) (w.setRow g (arr N (updR f off (m * size) h))) := by
  have hl : (loadCells ⟨ga, oa, none⟩ ((List.range (m * size)).map h).length).run P w = .ok ((List.range (m * size)).map h).toArray w :=
    run_loadCells_list (P := P) w ⟨ga, oa, none⟩ _ (fun j v hv => by
      have hj : j < m * size := by
        rcases Nat.lt_or_ge j (m * size) with h | h
        · exact h
        · rw [List.getElem?_eq_none (by simpa using h)] at hv; cases hv
      rw [addr_add, hc j hj]
      rw [List.getElem?_map, List.getElem?_range hj] at hv
      exact hv)
  rw [List.length_map, List.length_range] at hl
  have hst := run_storeCells_at P g off t (arr (m * size) h).toList 0 (arr N f) w hg (by simp [arr]; omega) (fun v hv => by
    rw [arr_toList, List.mem_map] at hv
    obtain ⟨q, hq, rfl⟩ := hv
    exact h3 q (by simpa using hq))
  rw [Nat.add_zero, updR_list N off (m * size) f _ h1] at hst
  cases hq : P.info? elem with
  | none => simp [hq] at hsz
  | some i =>
    have hi : i.size = size := by simpa [hq] using hsz
    have hm' : min sLen dLen = m := hm
    simp [Builtin.copy_, run_underlying hu, Builtin.lenOf, Builtin.firstCells, sizeOf, typeInfo, hq, hi, hm, hm', hl, arr_toList] at hst ⊢
    simp [hst]
theorem wpList_copy_cells {ops : Array Oper} {rest : List Oper} {o : Oper} {a : Act} {w : World} {Q : Exit → Act → World → Prop} (hgd : o.guard = none) (d s : Operand) (dT sT : TypeId)
    (ho : o.op = .call { callee := .builtin .copy, args := #[d, s], argTypes := #[dT, sT] }) (elem : TypeId) (size g off dLen dCap ga oa sLen sCap m : Nat) (t : TypeId) (N : Nat) (f h : Nat → Value)
    (hd : a.eval d = .slice (some ⟨g, off, none⟩) dLen dCap) (hs : a.eval s = .slice (some ⟨ga, oa, none⟩) sLen sCap)
    (hu : P.underlying dT = some (.slice elem)) (hsz : (P.info? elem).map (·.size) = some size) (hm : Nat.min sLen dLen = m)
    (hg : FB w g t N f) (hc : ∀ q, q < m * size → w.cell? ⟨ga, oa + q, none⟩ = some (h q)) (h1 : off + m * size ≤ N) (h3 : ∀ q, q < m * size → (h q).oneCell' = true)
    (hK : ∀ w', FB w' g t N (updR f off (m * size) h) → Touch g w w' → w'.heap.size = w.heap.size → wpList P ops Q rest (a.put o.dst (goInt m)) w') : wpList P ops Q (o :: rest) a w :=
  wpList_plain hgd fun _ hKK => by
    have hrun := run_copy_cells (P := P) w dT sT o.type elem size g off dLen dCap ga oa sLen sCap m t N f h hu hsz hm hg hc h1 h3
    unfold Oper.wp execOp
    simp only [ho, resolve, invoke, builtin, Sem.run_bind, Sem.run_pure, Result.andThen_ok, List.map_toArray, List.map_cons, List.map_nil, hd, hs, hrun]
    exact hKK _ _ (hK _ (setRow_FB hg) (setRow_touch w g _) (by simp))
end
/-- a row of things in a block of its own is owned -/
theorem own_of_fb {α : Type} {w : World} {g base : Nat} {e : TypeId} {s : Nat} {f : α → Nat → Value} {l : List α} {h : Nat → Value} (n : Nat) (hn : l.length = n) (hg : FB w g e (n * s) h) (hb : base ≤ g) (hm : n ≤ maxLen)
    (hh : ∀ j a, l[j]? = some a → ∀ k, k < s → h (j * s + k) = f a k) : OwnR e s f w base (.slice (some ⟨g, 0, none⟩) n n) l := by
  subst hn
  refine ⟨by rw [flat_len], .inr ⟨g, l.length, _, rfl, hb, hg, Nat.le_refl _, hm, arr_size _ _, ?_⟩⟩
  rw [arr_toList, List.take_of_length_le (by simp)]
  refine List.ext_getElem? fun q => ?_
  rcases Nat.lt_or_ge q (l.length * s) with hq | hq
  · rcases Nat.eq_zero_or_pos s with h0 | h0
    · subst h0; simp at hq
    have hjl : q / s < l.length := Nat.div_lt_of_lt_mul (by rw [Nat.mul_comm]; exact hq)
    obtain ⟨a, ha⟩ : ∃ a, l[q / s]? = some a := ⟨_, List.getElem?_eq_getElem hjl⟩
    have h2 := flat_get s f l (q / s) a ha (q % s) (Nat.mod_lt _ h0)
    rw [show q / s * s + q % s = q from by rw [Nat.mul_comm]; exact Nat.div_add_mod q s] at h2
    rw [h2, List.getElem?_map, List.getElem?_range hq]
    have h3 := hh (q / s) a ha (q % s) (Nat.mod_lt _ h0)
    rw [show q / s * s + q % s = q from by rw [Nat.mul_comm]; exact Nat.div_add_mod q s] at h3
    exact congrArg some h3
  · rw [List.getElem?_eq_none (by simpa using hq), List.getElem?_eq_none (by rw [flat_len]; exact hq)]
theorem flat_bytes1 : ∀ L : List Int, flat 1 (fun x (_ : Nat) => Value.int .u8 x) L = L.map (Value.int .u8)
  | [] => rfl
  | x :: t => by
    have := flat_bytes1 t
    unfold flat at this ⊢
    rw [List.flatMap_cons, this, List.map_cons]
    rfl
theorem ownB_of {w : World} {base : Nat} {v : Value} {L : List Int} (h : OwnR 5 1 (fun x (_ : Nat) => Value.int .u8 x) w base v L) : OwnB w base v L := by
  unfold OwnR at h
  rw [flat_bytes1] at h
  exact h
theorem infoB : (Tryd.prog.info? 5).map (fun i => (i.zero.map Value.cells, i.size, i.bytes)) = some (some (arr 1 fun _ => .int .u8 0), 1, 1) := by kernel_rfl
theorem sizeB : (Tryd.prog.info? 5).map (·.size) = some 1 := by kernel_rfl
def CopEnd (w : World) (L : List Int) (e : Ending) (w' : World) : Prop := ∃ v, e = .returned v ∧ OwnB w' w.heap.size v L ∧ Below w.heap.size w w'
set_option maxHeartbeats 2000000 in
theorem copied_any (w : World) (A : Option Addr) (n c : Nat) (L : List Int) (h : Sl w A n c L) (hn : n ≤ 140737488355328) :
    Calls Tryd.prog 37 #[.slice A n c] w (CopEnd w L) := by
  have HS := Lib.hid h
  clear h
  go_enter Tryd.func37, Tryd.ntmps37
  by_cases h0 : n = 0
  · subst h0
    have HL := Lib.hid (show L = [] from List.eq_nil_of_length_eq_zero HS.out.len.out)
    go_wp2_with fail
    go_ret
    exact ⟨_, rfl, by rw [HL.out]; exact OwnB.nil _ _, Below.refl _ _⟩
  · have t0 : ((n : Int) == 0) = false := by rw [beq_eq_false_iff_ne]; omega
    have t0' : ((n : Int) = 0) = False := by simp; omega
    obtain ⟨b, off, rfl, hbl, hcell⟩ := HS.out.byt (by have := HS.out.len.out; omega)
    have hmk := run_make_seg (P := Tryd.prog) w 22 5 1 1 (fun _ => .int .u8 0) n Tryd.underlying22 infoB (by decide) (by omega) (by omega)
    have hb1 := below_box w (.cells (arr (n * 1) fun q => (fun _ => Value.int .u8 0) (q % 1)) 5)
    have hf1 := FB.new w 5 (n * 1) (fun q => (fun _ => Value.int .u8 0) (q % 1))
    obtain ⟨w1, hw1⟩ : ∃ w1, w1 = w.alloc (.cells (arr (n * 1) fun q => (fun _ => Value.int .u8 0) (q % 1)) 5) := ⟨_, rfl⟩
    rw [← hw1] at hmk hb1 hf1
    have HF := Lib.hid hf1
    have HB := Lib.hid hb1
    have HC := Lib.hid (show ∀ q, q < n * 1 → w1.cell? ⟨b, off + q, none⟩ = some (.int .u8 (L[q]?.getD 0)) from fun q hq => (cell_same (hb1.block b hbl) _).trans (hcell q (by have := HS.out.len.out; omega)))
    clear hw1 hf1 hb1 hcell h0
    go_wp2_with (refine wpList_copy_cells rfl (.tmp 10) (.tmp 11) 22 22 rfl 5 1 w.heap.size 0 n n b off n c n 5 (n * 1) _ (fun q => .int .u8 (L[q]?.getD 0)) rfl rfl Tryd.underlying22 sizeB (Nat.min_self _) HF.out HC.out (by omega) (fun _ _ => rfl) ?_; intro w2 h2 hT2 hs2)
    go_ret
    refine ⟨_, rfl, ownB_of (own_of_fb n HS.out.len.out h2 (Nat.le_refl _) (by unfold maxLen; omega) fun j x hj k hk => ?_), HB.out.trans (hT2.below (Nat.le_refl _) HB.out.size)⟩
    have hjn : j < n := by
      rcases Nat.lt_or_ge j L.length with h1 | h1
      · have := HS.out.len.out; omega
      · rw [List.getElem?_eq_none h1] at hj; cases hj
    unfold updR
    rw [if_pos (by omega), show j * 1 + k - 0 = j by omega]
    show Value.int .u8 (L[j]?.getD 0) = _
    rw [hj]
    rfl
end Go.Proofs.YtlodoinmippebaaDoor.Pak
