/- Package deed: the writer: bytes and numbers. -/
import Derived.Test.YtbomihdnnidelaaDeN
namespace Go.Proofs.Ytbomihdnnidelaa
open Go.ChangeShapes Go.WideShapes Go.ChangeAt Go.RowKit
open Dee
set_option linter.unusedVariables false
set_option linter.unusedSimpArgs false
set_option maxRecDepth 100000
theorem append_bytesG {P : Program} (hu : P.underlying 28 = some (.slice 5)) (hinf : (P.info? 5).map (fun i => (i.zero, i.size, i.bytes)) = some (some (.int .u8 0), 1, 1)) (w : World) {ops : Array Oper} {rest : List Oper} {o : Oper} {a : Act} {Q : Exit → Act → World → Prop} (hgd : o.guard = none) (s x : Operand)
    (ho : o.op = .call { callee := .builtin .append, args := #[s, x], argTypes := #[28, 28] })
    (base : Nat) (v : Value) (L : List Int) (hs : a.eval s = v) (hown : OwnB w base v L)
    (A : Option Addr) (m c : Nat) (M : List Int) (hx : a.eval x = .slice A m c) (hm : M.length = m) (hr : BytesAt w A M)
    (hlen : L.length + m ≤ 140737488355328) (hbase : base ≤ w.heap.size)
    (h : ∀ v' w', OwnB w' base v' (L ++ M) → w.grownBy w' v.ownBlock → wpList P ops Q rest (a.put o.dst v') w') : wpList P ops Q (o :: rest) a w := by
  subst hm
  obtain ⟨i0, hi, hz0, hz1, hz2⟩ := info_parts hinf
  refine wpList_append_any w hgd s x 28 ho base 5 i0 (.int .u8 0) 1 1 hu hi hz0 hz1 hz2 rfl (by decide) v L.length _ hs hown w.heap.size A M.length c _ hx hr.reads
    (fun u hu => ?_) (by unfold maxLen; omega) (by omega) hbase ?_
  · simp only [List.mem_map] at hu
    obtain ⟨z, _, rfl⟩ := hu
    rfl
  · intro v' w' h1 h2 _
    refine h v' w' ?_ h2
    unfold OwnB
    rw [List.length_append, List.map_append]
    exact h1
/-- all below B is as it was, and every variable that is no writer and no row of bytes -/
structure WT (B : Nat) (w w' : World) : Prop where
  below : Below B w w'
  blk : ∀ k t cs, Blk w k t cs → t ≠ 5 → t ≠ 71 → Blk w' k t cs
theorem WT.refl (B : Nat) (w : World) : WT B w w := ⟨Below.refl _ _, fun _ _ _ h _ _ => h⟩
theorem WT.trans {B : Nat} {a b c : World} (h : WT B a b) (k : WT B b c) : WT B a c := ⟨h.below.trans k.below, fun i t cs hb h1 h2 => k.blk i t cs (h.blk i t cs hb h1 h2) h1 h2⟩
theorem WT.of_below {B : Nat} {w w' : World} (h : Below w.heap.size w w') (hB : B ≤ w.heap.size) : WT B w w' := ⟨h.mono hB, fun k t cs hb _ _ => hb.below h hb.lt⟩
theorem WT.fb {B : Nat} {w w' : World} (h : WT B w w') {g : Nat} {t : TypeId} {n : Nat} {f : Nat → Value} (hb : FB w g t n f) (h1 : t ≠ 5) (h2 : t ≠ 71) : FB w' g t n f := h.blk g t _ hb h1 h2
theorem WT.mono {B B' : Nat} {w w' : World} (h : WT B w w') (hB : B' ≤ B) : WT B' w w' := ⟨h.below.mono hB, h.blk⟩
/-- the writer at g has written L -/
structure Wr (w : World) (g base : Nat) (L : List Int) : Prop where
  ex : ∃ v, Blk w g 71 #[v] ∧ OwnB w base v L
  base : base ≤ w.heap.size
theorem Wr.lt {w : World} {g base : Nat} {L : List Int} (h : Wr w g base L) : g < w.heap.size := by obtain ⟨v, h1, _⟩ := h.ex; exact h1.lt
theorem ownB_up {w w' : World} {base : Nat} {v : Value} {L : List Int} (h : OwnB w base v L) (hb : Below w.heap.size w w') : OwnB w' base v L := own_keep h fun b _ hlt => hb.block b hlt
theorem Wr.up {w w' : World} {g base : Nat} {L : List Int} (h : Wr w g base L) (hb : Below w.heap.size w w') : Wr w' g base L := by
  obtain ⟨v, h1, h2⟩ := h.ex
  exact ⟨⟨v, h1.below hb h1.lt, ownB_up h2 hb⟩, Nat.le_trans h.base hb.size⟩
/-- a variable of another type is written to -/
theorem Wr.touch {w w' : World} {g base k : Nat} {L : List Int} {t : TypeId} {cs : Array Value} (h : Wr w g base L) (ht : Touch k w w') (hb : Blk w k t cs) (h1 : 5 ≠ t) (h2 : 71 ≠ t) : Wr w' g base L := by
  obtain ⟨v, h3, h4⟩ := h.ex
  refine ⟨⟨v, h3.touch ht (h3.ne_ hb h2), own_keep h4 fun b hv hlt => ht.block b hlt fun e => ?_⟩, Nat.le_trans h.base ht.size⟩
  exact own_blk_ne h4 hb h1 (by rw [hv, e])
def WrEnd (w : World) (g base B : Nat) (L : List Int) (e : Ending) (w' : World) : Prop := e = .returned (.tuple #[]) ∧ Wr w' g base L ∧ WT B w w'
theorem bytes_box (w : World) (x : Int) : BytesAt (w.alloc (.cells #[.int .u8 x] 5)) (some ⟨w.heap.size, 0, none⟩) [x] := (ByteBlk.new w [x]).at_
theorem u8_wrap (n : Int) : IntKind.u8.wrap n = n % 256 := by simp [IntKind.wrap, IntKind.bits, IntKind.signed]
set_option maxHeartbeats 1000000 in
theorem byte_w (w : World) (g base B : Nat) (L : List Int) (n : Int) (h : Wr w g base L) (hB : B ≤ g ∧ B ≤ base) (hn : 0 ≤ n ∧ n < 256) (hl : L.length ≤ 1099511627776) :
    Calls Try.prog 74 #[.pointer (some ⟨g, 0, none⟩), .int .i64 n] w (WrEnd w g base B (L ++ [n])) := by
  obtain ⟨⟨v, hb, hown⟩, hbase⟩ := h
  obtain ⟨A, c, rfl, hat⟩ := hown.form
  have x0 : w.cell? ⟨g, 0, none⟩ = some (.slice A L.length c) := hb.cell 0
  have hU := u8_wrap n
  rw [Int.emod_eq_of_lt hn.1 hn.2] at hU
  have hbe := below_box w (.cells #[.int .u8 n] 5)
  have HO := Lib.hid (ownB_up hown hbe)
  have HBX := Lib.hid (bytes_box w n)
  have HG := Lib.hid (hb.below hbe hb.lt)
  have HW := Lib.hid (WT.of_below hbe (Nat.le_trans hB.2 hbase))
  have HB := Lib.hid hB
  have HS := Lib.hid (Nat.le_trans hbase hbe.size)
  have HL := Lib.hid hl
  clear hat hown hb hbase hbe hB hl
  obtain ⟨m, hm⟩ : ∃ m, m = L.length := ⟨_, rfl⟩
  rw [← hm] at x0 HO HG
  have HM := Lib.hid hm
  clear hm
  go_enter Try.func74, Try.ntmps74
  go_wp2_with (at_builtin; (refine append_bytesG Try.underlying28 byte_info _ rfl (.tmp 8) (.tmp 11) rfl base _ L rfl HO.out _ 1 1 [n] rfl rfl HBX.out (by have := HL.out; omega) HS.out ?_; intro v9 w9 hown9 hg9; have hne := own_blk_ne HO.out HG.out (show 5 ≠ 71 by decide); have y0 : w9.cell? ⟨g, 0, none⟩ = some (.slice A m c) := (cell_same (hg9.block g HG.out.lt (fun e => hne e.symm)) 0).trans (HG.out.cell 0); have f0 : w9.frozen? ⟨g, 0, none⟩ = false := Blk.frozen (t := 71) ((hg9.block g HG.out.lt (fun e => hne e.symm)).trans HG.out) 0; obtain ⟨A9, c9, rfl, -⟩ := hown9.form))
  have hb9 : Blk w9 g 71 #[.slice A m c] := (hg9.block g HG.out.lt (fun e => hne e.symm)).trans HG.out
  go_end0
  rw [show (L ++ [n]).length = L.length + 1 by simp] at hown9
  refine ⟨rfl, ⟨⟨_, hb9.set_ 0 _, own_keep hown9 fun b hb _ => Below.heap_setCell _ _ _ _ fun e => ?_⟩, Nat.le_trans HS.out (Nat.le_trans hg9.size (Touch.set_ w9 0 _).size)⟩, HW.out.trans ⟨?_, fun k t cs hk h1 h2 => ?_⟩⟩
  · have h3 := own_blk_ne hown9 hb9 (show 5 ≠ 71 by decide)
    simp only at e
    exact h3 (by rw [hb, e])
  · exact ((Below.refl base _).grown hg9 HS.out fun k hk => (World.ownsRow.lt HO.out k hk).1).mono HB.out.2 |>.setCell HB.out.1 _
  · have h4 : some k ≠ (Value.slice A m c).ownBlock := fun e => own_blk_ne HO.out hk (fun e2 => h1 e2.symm) e.symm
    have h5 : Blk w9 k t cs := (hg9.block k hk.lt h4).trans hk
    exact h5.far (fun e => by simp only at e; subst e; exact (h5.ne_ hb9 h2) rfl) _
theorem or_128 (x : Int) (h : 0 ≤ x ∧ x < 128) : bits BinOp.or IntKind.i64 x 128 = x + 128 :=
  bits_join_low .i64 63 (by decide) i64_63 7 x 128 h.1 h.2 (by omega) (by decide) (by decide) (by decide)
theorem num_cons {n : Nat} (h : ¬ n < 128) : num n = ((n : Int) % 128 + 128) :: num (n / 128) := by
  rw [num_high h]
  congr 1
theorem num_len10 (n : Nat) (h : n < 9223372036854775808) : (num n).length ≤ 9 := num_len 8 n (by rw [p9]; exact h)
set_option maxHeartbeats 1000000 in
theorem number_w (w : World) (g base B : Nat) (L : List Int) (n : Nat) (h : Wr w g base L) (hB : B ≤ g ∧ B ≤ base) (hn : n < 9223372036854775808) (hl : L.length ≤ 1099511627700) :
    Calls Try.prog 51 #[.pointer (some ⟨g, 0, none⟩), .int .i64 n] w (WrEnd w g base B (L ++ num n)) := by
  have HW := Lib.hid h
  have HL := Lib.hid hl
  have HB := Lib.hid hB
  have HN := Lib.hid (num_len10 n hn)
  clear h hl hB
  go_enter Try.func51, Try.ntmps51
  go_wp2_with fail
  go_loopw [1, 4, 6, 7, 8, 9, 10, 11, 12] (fun a1 _ _ _ _ _ _ _ _ wr => ∃ (k : Nat) (M : List Int), a1 = .int .i64 k ∧ k < 9223372036854775808 ∧ Hid (M ++ num k = L ++ num n) ∧ Wr wr g base M ∧ WT B w wr) (fun a1 _ _ _ _ _ _ _ _ _ => (intOf a1).toNat)
  case atStart => exact ⟨n, L, rfl, hn, Lib.hid rfl, HW.out, WT.refl _ _⟩
  case round =>
    obtain ⟨k, M, rfl, hk, HM, hWr, hT⟩ := hrel
    have HWr := Lib.hid hWr
    have HT := Lib.hid hT
    have hML : M.length ≤ 1099511627709 := by
      have h1 := congrArg List.length HM.out
      simp only [List.length_append] at h1
      have := HL.out
      have := HN.out
      omega
    have HML := Lib.hid hML
    clear hWr hT hML
    by_cases hk0 : k < 128
    · have t1 : decide (128 ≤ (k : Int)) = false := decide_eq_false (by omega)
      have HE := Lib.hid (show L ++ num n = M ++ [(k : Int)] by rw [← HM.out, num_low hk0])
      clear HM
      go_wp2_with fail
      refine (byte_w _ g base B M k HWr.out HB.out (by omega) (by have := HML.out; omega)).mono ?_
      rintro e w2 ⟨rfl, h2, hT2⟩
      rw [← HE.out] at h2
      have H2 := Lib.hid h2
      have HT2 := Lib.hid hT2
      clear h2 hT2
      go_wp2_with fail
      go_end0
      exact ⟨rfl, H2.out, HT.out.trans HT2.out⟩
    · have hk1 : 128 ≤ (k : Int) := by omega
      have t1 : decide (128 ≤ (k : Int)) = true := decide_eq_true hk1
      have hA := and127 (k : Int)
      have hO := or_128 ((k : Int) % 128) (by omega)
      have HE := Lib.hid (show (M ++ [(k : Int) % 128 + 128]) ++ num (k / 128) = L ++ num n by rw [← HM.out, num_cons hk0, List.append_assoc]; rfl)
      have hd0 : (k : Int) / 128 = ((k / 128 : Nat) : Int) := by omega
      have HD := Lib.hid hd0
      have HKL := Lib.hid (show k / 128 < k by omega)
      clear HM hd0
      go_wp2_with fail
      refine (byte_w _ g base B M ((k : Int) % 128 + 128) HWr.out HB.out (by omega) (by have := HML.out; omega)).mono ?_
      rintro e w2 ⟨rfl, h2, hT2⟩
      have H2 := Lib.hid h2
      have HT2 := Lib.hid hT2
      clear h2 hT2 hA hO
      go_wp2_with fail
      go_roundw
      case rel => exact ⟨k / 128, M ++ [(k : Int) % 128 + 128], by rw [← HD.out], by omega, HE, H2.out, HT.out.trans HT2.out⟩
      case measure => rw [HD.out]; simp [intOf]; omega
theorem zig_nn (n : Int) (h : 0 ≤ n) : (zig n : Int) = 2 * n := by unfold zig; rw [if_neg (by omega)]; omega
theorem zig_neg (n : Int) (h : n < 0) : (zig n : Int) = -2 * n - 1 := by unfold zig; rw [if_pos h]; omega
set_option maxHeartbeats 1000000 in
theorem signed_wr (w : World) (g base B : Nat) (L : List Int) (n : Int) (h : Wr w g base L) (hB : B ≤ g ∧ B ≤ base) (hn : -1152921504606846976 ≤ n ∧ n ≤ 1152921504606846976) (hl : L.length ≤ 1099511627700) :
    Calls Try.prog 75 #[.pointer (some ⟨g, 0, none⟩), .int .i64 n] w (WrEnd w g base B (L ++ num (zig n))) := by
  have HN := Lib.hid (number_w w g base B L (zig n) h hB (by unfold zig; split <;> omega) hl)
  obtain ⟨hn0, hn1⟩ := hn
  clear h
  by_cases h0 : n < 0
  · have t0 : decide (n < 0) = true := decide_eq_true h0
    have HZ := Lib.hid (zig_neg n h0)
    rw [HZ.out] at HN
    go_enter Try.func75, Try.ntmps75
    go_wp2_with fail
    refine HN.out.mono ?_
    rintro e w2 ⟨rfl, h2, hT2⟩
    have H2 := Lib.hid h2
    have HT2 := Lib.hid hT2
    clear h2 hT2 HN
    go_wp2_with fail
    go_end0
    exact ⟨rfl, H2.out, HT2.out⟩
  · have t0 : decide (n < 0) = false := decide_eq_false h0
    have HZ := Lib.hid (zig_nn n (by omega))
    rw [HZ.out] at HN
    have h0' : 0 ≤ n := by omega
    go_enter Try.func75, Try.ntmps75
    go_wp2_with fail
    refine HN.out.mono ?_
    rintro e w2 ⟨rfl, h2, hT2⟩
    have H2 := Lib.hid h2
    have HT2 := Lib.hid hT2
    clear h2 hT2 HN
    go_wp2_with fail
    go_end0
    exact ⟨rfl, H2.out, HT2.out⟩
end Go.Proofs.Ytbomihdnnidelaa
