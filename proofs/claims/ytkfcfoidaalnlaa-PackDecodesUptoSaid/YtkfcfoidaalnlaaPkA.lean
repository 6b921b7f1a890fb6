/- Package pack: what lies in memory; a number put behind bytes; a number read. -/
import Derived.Test.YtkfcfoidaalnlaaDeRow
import Derived.Test.YtkfcfoidaalnlaaPkM
namespace Go.Proofs.Ytkfcfoidaalnlaa.Pak
open Go.ChangeShapes Go.WideShapes Go.ChangeAt Go.RowKit
set_option linter.unusedVariables false
set_option linter.unusedSimpArgs false
set_option maxRecDepth 100000
def RetB (w : World) (v : Value) (e : Ending) (w' : World) : Prop := e = .returned v ∧ Below w.heap.size w w'
theorem below_box (w : World) (o : Obj) : Below w.heap.size w (w.alloc o) := (Below.refl _ _).alloc (Nat.le_refl _) _
theorem u8_wrap (n : Int) : IntKind.u8.wrap n = n % 256 := by simp [IntKind.wrap, IntKind.bits, IntKind.signed]
theorem append_bytesG {P : Program} (hu : P.underlying 22 = some (.slice 5)) (hinf : (P.info? 5).map (fun i => (i.zero, i.size, i.bytes)) = some (some (.int .u8 0), 1, 1)) (w : World) {ops : Array Oper} {rest : List Oper} {o : Oper} {a : Act} {Q : Exit → Act → World → Prop} (hgd : o.guard = none) (s x : Operand)
    (ho : o.op = .call { callee := .builtin .append, args := #[s, x], argTypes := #[22, 22] })
    (base : Nat) (v : Value) (L : List Int) (hs : a.eval s = v) (hown : OwnB w base v L)
    (A : Option Addr) (m c : Nat) (M : List Int) (hx : a.eval x = .slice A m c) (hm : M.length = m) (hr : BytesAt w A M)
    (hlen : L.length + m ≤ 140737488355328) (hbase : base ≤ w.heap.size)
    (h : ∀ v' w', OwnB w' base v' (L ++ M) → w.grownBy w' v.ownBlock → wpList P ops Q rest (a.put o.dst v') w') : wpList P ops Q (o :: rest) a w := by
  subst hm
  obtain ⟨i0, hi, hz0, hz1, hz2⟩ := info_parts hinf
  refine wpList_append_any w hgd s x 22 ho base 5 i0 (.int .u8 0) 1 1 hu hi hz0 hz1 hz2 rfl (by decide) v L.length _ hs hown w.heap.size A M.length c _ hx hr.reads
    (fun u hu => ?_) (by unfold maxLen; omega) (by omega) hbase ?_
  · simp only [List.mem_map] at hu
    obtain ⟨z, _, rfl⟩ := hu
    rfl
  · intro v' w' h1 h2 _
    refine h v' w' ?_ h2
    unfold OwnB
    rw [List.length_append, List.map_append]
    exact h1
/-- all below B is as it was, and every variable that is no row of bytes -/
structure UT (B : Nat) (w w' : World) : Prop where
  below : Below B w w'
  blk : ∀ k t cs, Blk w k t cs → t ≠ 5 → Blk w' k t cs
theorem UT.refl (B : Nat) (w : World) : UT B w w := ⟨Below.refl _ _, fun _ _ _ h _ => h⟩
theorem UT.trans {B : Nat} {a b c : World} (h : UT B a b) (k : UT B b c) : UT B a c := ⟨h.below.trans k.below, fun i t cs hb h1 => k.blk i t cs (h.blk i t cs hb h1) h1⟩
theorem UT.of_below {B : Nat} {w w' : World} (h : Below w.heap.size w w') (hB : B ≤ w.heap.size) : UT B w w' := ⟨h.mono hB, fun k t cs hb _ => hb.below h hb.lt⟩
theorem UT.fb {B : Nat} {w w' : World} (h : UT B w w') {g : Nat} {t : TypeId} {n : Nat} {f : Nat → Value} (hb : FB w g t n f) (h1 : t ≠ 5) : FB w' g t n f := h.blk g t _ hb h1
theorem UT.mono {B B' : Nat} {w w' : World} (h : UT B w w') (hB : B' ≤ B) : UT B' w w' := ⟨h.below.mono hB, h.blk⟩
theorem UT.drewN {B : Nat} {w w' : World} (h : UT B w w') (n : Nat) : UT B w (w'.drewN n) := ⟨below_drewN h.below n, h.blk⟩
theorem UT.grown {base : Nat} {w w' : World} {v : Value} {L : List Int} (hg : w.grownBy w' v.ownBlock) (hown : OwnB w base v L) (hbase : base ≤ w.heap.size) : UT base w w' :=
  ⟨(Below.refl base _).grown hg hbase fun k hk => (World.ownsRow.lt hown k hk).1, fun k t cs hb h1 => (hg.block k hb.lt (fun e => own_blk_ne hown hb (fun e2 => h1 e2.symm) e.symm)).trans hb⟩
theorem ownB_up {w w' : World} {base : Nat} {v : Value} {L : List Int} (h : OwnB w base v L) (hb : Below w.heap.size w w') : OwnB w' base v L := own_keep h fun b _ hlt => hb.block b hlt
theorem bytes_box (w : World) (x : Int) : BytesAt (w.alloc (.cells #[.int .u8 x] 5)) (some ⟨w.heap.size, 0, none⟩) [x] := (ByteBlk.new w [x]).at_
def PutEnd (w : World) (base : Nat) (L : List Int) (e : Ending) (w' : World) : Prop := ∃ v', e = .returned v' ∧ OwnB w' base v' L ∧ UT base w w'
set_option maxHeartbeats 1000000 in
theorem put_any (w : World) (base : Nat) (v : Value) (L : List Int) (n : Int) (k : Nat) (hown : OwnB w base v L) (hbase : base ≤ w.heap.size) (hl : L.length + k ≤ 1099511627776) :
    Calls Try.prog 41 #[v, .int .i64 n, .int .i64 k] w (PutEnd w base (L ++ le n k)) := by
  have HO := Lib.hid hown
  have HL := Lib.hid hl
  have HS := Lib.hid hbase
  have hk44 : k ≤ 1099511627776 := by omega
  clear hown hbase hl
  go_enter Try.func41, Try.ntmps41
  go_wp2_with fail
  go_loopw [0, 1, 8, 9, 10, 11, 12, 13, 14, 15, 16, 17] (fun a0 a1 a8 _ _ _ _ _ _ _ _ _ wr => ∃ (j : Nat) (m : Int) (M : List Int), a1 = .int .i64 m ∧ a8 = .int .i64 j ∧ j ≤ k ∧ Hid (M ++ le m (k - j) = L ++ le n k) ∧ OwnB wr base a0 M ∧ UT base w wr) (fun _ _ a8 _ _ _ _ _ _ _ _ _ _ => (k - (intOf a8)).toNat)
  case atStart => exact ⟨0, n, L, rfl, rfl, Nat.zero_le _, Lib.hid rfl, HO.out, UT.refl _ _⟩
  case round =>
    obtain ⟨j, m, M, rfl, rfl, hj, HE, hO, hU⟩ := hrel
    have HOM := Lib.hid hO
    have HU := Lib.hid hU
    have HSZ := Lib.hid (Nat.le_trans HS.out hU.below.size)
    clear hO hU HO
    by_cases hlt : j < k
    · have hlt' : (j : Int) < k := by omega
      have hM8 := u8_wrap m
      have hbe := below_box wr (.cells #[.int .u8 (m % 256)] 5)
      have HOB := Lib.hid (ownB_up HOM.out hbe)
      have HBX := Lib.hid (bytes_box wr (m % 256))
      have HUB := Lib.hid (HU.out.trans (UT.of_below hbe HSZ.out))
      have HS2 := Lib.hid (Nat.le_trans HSZ.out hbe.size)
      have HML := Lib.hid (show M.length + 1 ≤ 140737488355328 by
        have h1 := congrArg List.length HE.out
        simp only [List.length_append, le_len] at h1
        have := HL.out
        omega)
      have HE2 := Lib.hid (show (M ++ [m % 256]) ++ le (m / 256) (k - (j + 1)) = L ++ le n k by
        rw [← HE.out, show k - j = (k - (j + 1)) + 1 by omega, List.append_assoc]; rfl)
      obtain ⟨A, c, rfl, -⟩ := HOM.out.form
      obtain ⟨q, hq⟩ : ∃ q, q = M.length := ⟨_, rfl⟩
      rw [← hq] at HOB HOM ⊢
      have HQ := Lib.hid hq
      clear hbe HOM HE hq HU HSZ
      go_wp2_with (at_builtin; (refine append_bytesG Try.underlying22 byte_info _ rfl (.tmp 10) (.tmp 13) rfl base _ M rfl HOB.out _ 1 1 [m % 256] rfl rfl HBX.out HML.out HS2.out ?_; intro v9 w9 hown9 hg9; have hUT := UT.grown hg9 HOB.out HS2.out))
      go_roundw
      case rel => exact ⟨j + 1, m / 256, M ++ [m % 256], rfl, by go_num, by omega, HE2, hown9, HUB.out.trans hUT⟩
      case measure => simp [intOf]; omega
    · obtain rfl : j = k := by omega
      have HE2 := Lib.hid (show M = L ++ le n j by rw [← HE.out, Nat.sub_self]; exact (List.append_nil _).symm)
      clear HE hlt
      go_wp2_with fail
      go_ret
      exact ⟨_, rfl, by rw [← HE2.out]; exact HOM.out, HU.out⟩
end Go.Proofs.Ytkfcfoidaalnlaa.Pak
