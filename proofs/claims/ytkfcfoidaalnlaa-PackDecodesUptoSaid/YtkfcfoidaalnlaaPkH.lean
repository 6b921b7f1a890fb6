/- Package pack: sections written, and how many bytes they are. -/
import Derived.Test.YtkfcfoidaalnlaaPkG
import Derived.Lib.AppendStr
namespace Go.Proofs.Ytkfcfoidaalnlaa.Pak
open Go.ChangeShapes Go.WideShapes Go.ChangeAt Go.RowKit
set_option linter.unusedVariables false
set_option linter.unusedSimpArgs false
set_option maxRecDepth 100000
def szs (l : List Sc) : Nat := (l.map fun s => 4 + s.n).sum
theorem szs_cons (s : Sc) (t : List Sc) : szs (s :: t) = 4 + s.n + szs t := by unfold szs; rw [List.map_cons, List.sum_cons]
theorem szs_le (l : List Sc) (h : ∀ s ∈ l, s.n ≤ 140737488355328) : szs l ≤ l.length * 140737488355332 := by
  induction l with
  | nil => exact Nat.le_refl _
  | cons s t ih =>
    rw [szs_cons, List.length_cons, Nat.succ_mul]
    have h1 := h s (by simp)
    have h2 := ih fun x hx => h x (by simp [hx])
    omega
set_option maxHeartbeats 2000000 in
theorem size_any (w : World) (A : Option Addr) (m c : Nat) (l : List Sc) (hL : Hid (l.length = m)) (hm : m ≤ 4) (hA : RowsAt w A 3 secF l) (hs : ∀ s ∈ l, s.n ≤ 140737488355328) :
    Calls Try.prog 24 #[.slice A m c] w (RetB w (.int .i64 (8 + szs l : Nat))) := by
  have HL := hL
  have HA := Lib.hid hA
  have HZ := Lib.hid hs
  have HTOT := Lib.hid (show 8 + szs l ≤ 1000000000000000 by have := szs_le l hs; have := hL.out; omega)
  clear hL hA hs
  go_enter Try.func24, Try.ntmps24
  go_wp2_with fail
  go_loopw [3, 5, 8, 9, 10, 11, 12, 13, 14, 15, 16, 17, 18] (fun a3 _ a8 _ _ _ _ _ _ _ _ _ _ wr => ∃ (j x : Nat), a3 = .int .i64 x ∧ a8 = .int .i64 j ∧ j ≤ m ∧ Hid (x + szs (l.drop j) = 8 + szs l) ∧ Below w.heap.size w wr) (fun _ _ a8 _ _ _ _ _ _ _ _ _ _ _ => (m - intOf a8).toNat)
  case atStart => exact ⟨0, 8, rfl, rfl, Nat.zero_le _, Lib.hid rfl, Below.refl _ _⟩
  case round =>
    obtain ⟨j, x, rfl, rfl, hj, HE, hB⟩ := hrel
    have HB := Lib.hid hB
    clear hB
    by_cases hlt : j < m
    · have hlt' : (j : Int) < m := by omega
      obtain ⟨s, hs, hdr⟩ := drop_cons (l := l) (j := j) (by have := HL.out; omega)
      rw [hdr, szs_cons] at HE
      have hxb : x + (4 + s.n) ≤ 1000000000000000 := by have := HE.out; have := HTOT.out; omega
      obtain ⟨b, off, rfl, hbl, hcell⟩ := (HA.out.below HB.out) (by have := HL.out; omega)
      have HX := Lib.hid (hcell j s hs)
      clear hdr hcell hs
      obtain ⟨kd, at_, As, ns, cs, Ls⟩ := s
      simp only at hxb HE
      obtain ⟨X, hX⟩ : ∃ X, X = secF ⟨kd, at_, As, ns, cs, Ls⟩ := ⟨_, rfl⟩
      rw [← hX] at HX
      have HX1 := Lib.hid (show ∀ q, q < 3 → (X q).oneCell' = true by rw [hX]; exact secF_one _)
      have HXX := Lib.hid hX
      clear hX
      go_upto_region 5 with (first
        | (refine wpList_load_cells rfl 77 _ rfl b (off + j * 3) rfl 3 X _ HX.out Try.underlying77 rfl sizeSec ?_)
        | (refine wpList_alloc_seg rfl 77 rfl 3 (secF Sc.zero) zeroSec ?_; intro w2 h2 hB2 hs2)
        | (refine wpList_store_all rfl 77 _ _ rfl wr.heap.size 77 3 _ X rfl rfl h2 sizeSec HX1.out ?_; intro w3 h3 hT3 hs3))
      obtain ⟨gb, hgb⟩ : ∃ gb, gb = wr.heap.size := ⟨_, rfl⟩
      have hbw : Below wr.heap.size wr w3 := hB2.trans (hT3.below (Nat.le_refl _) hB2.size)
      rw [← hgb] at h3 ⊢
      have y2 : w3.cell? ⟨gb, 2, none⟩ = some (.slice As ns cs) := by rw [h3.cell 2 (by decide), HXX.out]; rfl
      have HB3 := Lib.hid (HB.out.trans (hbw.mono HB.out.size))
      have HE2 := Lib.hid (show (x + (4 + ns)) + szs (l.drop (j + 1)) = 8 + szs l by rw [← HE.out]; omega)
      clear h2 hB2 h3 hT3 hs2 hs3 hgb hbw HX HXX HX1 HB HE
      go_wp2_with fail
      go_roundw
      case rel => exact ⟨j + 1, x + (4 + ns), by go_num, by go_num, by omega, HE2, HB3.out⟩
      case measure => simp [intOf]; omega
    · obtain rfl : j = m := by omega
      have HE2 := Lib.hid (show x = 8 + szs l by rw [← HE.out, List.drop_of_length_le (by have := HL.out; omega)]; exact (Nat.add_zero _).symm)
      clear hlt HE
      go_wp2_with fail
      go_ret
      exact ⟨by rw [← HE2.out]; rfl, HB.out⟩
def secS (s : Sc) : List Int := le s.kind 1 ++ (le s.n 3 ++ s.L)
def bodyS (l : List Sc) : List Int := mark ++ l.flatMap secS
abbrev markS : ByteArray := { data := #[87, 80, 75, 49] }
theorem mark_cells : Lib.strCells markS = mark.map (Value.int .u8) := by kernel_rfl
theorem mark_size : markS.size = 4 := by kernel_rfl
theorem append_mark {P : Program} (hu : P.underlying 22 = some (.slice 5)) (hs : P.underlying 9 = some .string) (hinf : (P.info? 5).map (fun i => (i.zero, i.size, i.bytes)) = some (some (.int .u8 0), 1, 1)) (w : World) {ops : Array Oper} {rest : List Oper} {o : Oper} {a : Act} {Q : Exit → Act → World → Prop} (hgd : o.guard = none) (sl x : Operand)
    (ho : o.op = .call { callee := .builtin .append, args := #[sl, x], argTypes := #[22, 9] })
    (base : Nat) (v : Value) (hv : a.eval sl = v) (hown : OwnB w base v []) (hx : a.eval x = .string markS) (hbase : base ≤ w.heap.size)
    (h : ∀ v' w', OwnB w' base v' mark → UT base w w' → wpList P ops Q rest (a.put o.dst v') w') : wpList P ops Q (o :: rest) a w := by
  obtain ⟨i0, hi, hz0, hz1, hz2⟩ := info_parts hinf
  refine Lib.wpList_append_own_string w hgd sl x 22 9 ho base 5 i0 hu hs hi hz0 hz1 hz2 v 0 [] hv hown markS hx (by rw [mark_size]; unfold maxLen; decide) (by rw [mark_size]; decide) hbase ?_
  intro v' w' h1 h2 _
  refine h v' w' ?_ (UT.grown h2 hown hbase)
  rw [mark_cells, mark_size] at h1
  exact h1
theorem flat_bytes (l : List Sc) (h : ∀ s ∈ l, Bytes s.L) : Bytes (l.flatMap secS) := by
  intro x hx
  obtain ⟨s, hs, hx⟩ := List.mem_flatMap.1 hx
  exact ((le_bytes 1 s.kind).app ((le_bytes 3 _).app (h s hs))) x hx
theorem mark_bytes : Bytes mark := by unfold mark; intro x hx; simp at hx; unfold IsB; omega
set_option maxHeartbeats 4000000 in
theorem written_any (w : World) (A : Option Addr) (m c : Nat) (l : List Sc) (n : Nat) (hL : Hid (l.length = m)) (hm : m ≤ 4) (hA : RowsAt w A 3 secF l) (hs : ∀ s ∈ l, Sl w s.A s.n s.c s.L ∧ Bytes s.L) (hn : n ≤ 131072) (hlen : (bodyS l).length ≤ 1048576) :
    Calls Try.prog 25 #[.slice A m c, .int .i64 n] w fun e w' => ∃ v, e = .returned v ∧ OwnB w' w.heap.size v (bodyS l ++ le (sumN (bodyS l)) 4) ∧ Below w.heap.size w w' := by
  have HL := hL
  have HA := Lib.hid hA
  have HZ := Lib.hid hs
  have HLN := Lib.hid hlen
  clear hL hA hs hlen
  obtain ⟨i0, hi0, hz0, hz1, hz2⟩ := info_parts (P := Try.prog) byte_info
  obtain ⟨w1, hmk, hown, hgr⟩ := run_make_own (P := Try.prog) w w.heap.size 22 5 i0 (.int .u8 0) 1 Try.underlying22 hi0 hz0 hz1 .i64 .i64 n (by rw [hz2]; omega) (by unfold maxLen; omega) (Nat.le_refl _)
  have HU1 := Lib.hid (show UT w.heap.size w w1 from ⟨(Below.refl _ _).grown hgr (Nat.le_refl _) (fun g hg => by cases hg), fun k t cs hb _ => (hgr.block k hb.lt (by simp)).trans hb⟩)
  have HO1 := Lib.hid (show OwnB w1 w.heap.size (.slice (some ⟨w.heap.size, 0, none⟩) 0 n) [] from hown)
  have HS1 := Lib.hid hgr.size
  clear hown hgr hi0 hz0 hz1 hz2
  go_enter Try.func25, Try.ntmps25
  go_upto_region 2 with (at_builtin; (refine append_mark Try.underlying22 Try.underlying9 byte_info _ rfl (.tmp 9) _ rfl w.heap.size _ rfl HO1.out rfl HS1.out ?_; intro v2 w2 hown2 hU2))
  have HU2 := Lib.hid (HU1.out.trans hU2)
  have HO2 := Lib.hid hown2
  clear hown2 hU2 HU1 HO1 HS1 hmk
  go_wp2_with fail
  go_loopw [5, 7, 13, 14, 15, 16, 17, 18, 19, 20, 21, 22, 23, 24, 25, 26, 27, 28, 29, 30] (fun a5 _ a13 _ _ _ _ _ _ _ _ _ _ _ _ _ _ _ _ _ wr => ∃ (j : Nat) (M : List Int), a13 = .int .i64 j ∧ j ≤ m ∧ Hid (M ++ (l.drop j).flatMap secS = bodyS l) ∧ OwnB wr w.heap.size a5 M ∧ Below w.heap.size w wr) (fun _ _ a13 _ _ _ _ _ _ _ _ _ _ _ _ _ _ _ _ _ _ => (m - intOf a13).toNat)
  case atStart => exact ⟨0, mark, rfl, Nat.zero_le _, Lib.hid rfl, HO2.out, HU2.out.below⟩
  case round =>
    obtain ⟨j, M, rfl, hj, HE, hO, hB⟩ := hrel
    clear HO2 HU2
    have HO := Lib.hid hO
    have HB := Lib.hid hB
    clear hO hB
    by_cases hlt : j < m
    · have hlt' : (j : Int) < m := by omega
      obtain ⟨s, hs, hdr⟩ := drop_cons (l := l) (j := j) (by have := HL.out; omega)
      rw [hdr, List.flatMap_cons] at HE
      have hsm : s ∈ l := List.mem_of_getElem? hs
      obtain ⟨b, off, rfl, hbl, hcell⟩ := (HA.out.below HB.out) (by have := HL.out; omega)
      have HX := Lib.hid (hcell j s hs)
      have HSl := Lib.hid (HZ.out s hsm).1
      have HLEN := Lib.hid (show M.length + (4 + s.L.length) ≤ 1048576 by
        have h1 := congrArg List.length HE.out
        unfold secS at h1
        simp only [List.length_append, le_len] at h1
        have h2 := HLN.out
        omega)
      clear hdr hcell hs hsm
      obtain ⟨kd, at_, As, ns, cs, Ls⟩ := s
      simp only at HE HSl HLEN
      obtain ⟨X, hX⟩ : ∃ X, X = secF ⟨kd, at_, As, ns, cs, Ls⟩ := ⟨_, rfl⟩
      rw [← hX] at HX
      have HX1 := Lib.hid (show ∀ q, q < 3 → (X q).oneCell' = true by rw [hX]; exact secF_one _)
      have HXX := Lib.hid hX
      clear hX
      go_upto_region 5 with (first
        | (refine wpList_load_cells rfl 77 _ rfl b (off + j * 3) rfl 3 X _ HX.out Try.underlying77 rfl sizeSec ?_)
        | (refine wpList_alloc_seg rfl 77 rfl 3 (secF Sc.zero) zeroSec ?_; intro w2' h2 hB2 hs2)
        | (refine wpList_store_all rfl 77 _ _ rfl wr.heap.size 77 3 _ X rfl rfl h2 sizeSec HX1.out ?_; intro w3 h3 hT3 hs3))
      obtain ⟨gb, hgb⟩ : ∃ gb, gb = wr.heap.size := ⟨_, rfl⟩
      have hbw : Below wr.heap.size wr w3 := hB2.trans (hT3.below (Nat.le_refl _) hB2.size)
      rw [← hgb] at h3 ⊢
      have y0 : w3.cell? ⟨gb, 0, none⟩ = some (.int .i64 kd) := by rw [h3.cell 0 (by decide), HXX.out]; rfl
      have HF3 := Lib.hid h3
      have HO3 := Lib.hid (ownB_up HO.out hbw)
      have HB3 := Lib.hid (HB.out.trans (hbw.mono HB.out.size))
      clear h2 hB2 h3 hT3 hs2 hs3 hgb hbw HX HX1 HO HB
      obtain ⟨A3, c3, hv3, -⟩ := HO3.out.form
      subst hv3
      obtain ⟨q, hq⟩ : ∃ q, q = M.length := ⟨_, rfl⟩
      rw [← hq] at HO3 ⊢
      clear hq
      go_upto_region 6 with (go_at_call 41; refine (put_any w3 w.heap.size _ M kd 1 HO3.out HB3.out.size (by have := HLEN.out; omega)).mono ?_; rintro e w4 ⟨v4, rfl, hO4, hU4⟩)
      have hF4 := hU4.fb HF3.out (by decide)
      have y2 : w4.cell? ⟨gb, 2, none⟩ = some (.slice As ns cs) := by rw [hF4.cell 2 (by decide), HXX.out]; rfl
      have HF4 := Lib.hid hF4
      have HO4 := Lib.hid hO4
      have HB4 := Lib.hid (HB3.out.trans hU4.below)
      clear hF4 hO4 hU4 y0 HF3 HO3 HB3
      obtain ⟨A4, c4, hv4, -⟩ := HO4.out.form
      subst hv4
      obtain ⟨q4, hq4⟩ : ∃ q, q = (M ++ le kd 1).length := ⟨_, rfl⟩
      rw [← hq4] at HO4 ⊢
      clear hq4
      go_upto_region 7 with (go_at_call 41; refine (put_any w4 w.heap.size _ (M ++ le kd 1) ns 3 HO4.out HB4.out.size (by have := HLEN.out; simp [le_len]; omega)).mono ?_; rintro e w5 ⟨v5, rfl, hO5, hU5⟩)
      have hF5 := hU5.fb HF4.out (by decide)
      have y3 : w5.cell? ⟨gb, 2, none⟩ = some (.slice As ns cs) := by rw [hF5.cell 2 (by decide), HXX.out]; rfl
      have HO5 := Lib.hid hO5
      have HB5 := Lib.hid (HB4.out.trans hU5.below)
      have HSl5 := Lib.hid (HSl.out.up HB5.out)
      have HLE5 := Lib.hid (show ((M ++ le kd 1) ++ le (ns : Int) 3).length + ns ≤ 140737488355328 by
        have := HLEN.out; have := HSl.out.len.out; simp [le_len]; omega)
      have HE5 := Lib.hid (show (((M ++ le kd 1) ++ le (ns : Int) 3) ++ Ls) ++ (l.drop (j + 1)).flatMap secS = bodyS l by
        rw [← HE.out]; unfold secS; simp only [List.append_assoc])
      have HS5 := Lib.hid HB5.out.size
      clear hF5 hO5 hU5 y2 HF4 HO4 HB4 HE HXX
      obtain ⟨A5, c5, hv5, -⟩ := HO5.out.form
      subst hv5
      obtain ⟨q5, hq5⟩ : ∃ q, q = ((M ++ le kd 1) ++ le (ns : Int) 3).length := ⟨_, rfl⟩
      rw [← hq5] at HO5 ⊢
      clear hq5
      go_wp2_with (at_builtin; (refine append_bytesG Try.underlying22 byte_info _ rfl (.tmp 26) (.tmp 28) rfl w.heap.size _ _ rfl HO5.out As ns cs Ls rfl HSl5.out.len.out HSl5.out.byt HLE5.out HS5.out ?_; intro v9 w9 hown9 hg9; have hUT := UT.grown hg9 HO5.out HS5.out))
      go_roundw
      case rel => exact ⟨j + 1, _, by go_num, by omega, HE5, hown9, HB5.out.trans hUT.below⟩
      case measure => simp [intOf]; omega
    · obtain rfl : j = m := by omega
      have HE2 := Lib.hid (show M = bodyS l by rw [← HE.out, List.drop_of_length_le (by have := HL.out; omega)]; exact (List.append_nil _).symm)
      have HBY := Lib.hid (show Bytes M by rw [HE2.out]; exact mark_bytes.app (flat_bytes l fun s hs => (HZ.out s hs).2))
      have HML := Lib.hid (show M.length ≤ 1048576 by rw [HE2.out]; exact HLN.out)
      obtain ⟨A3, n3, c3, rfl, hSl⟩ := own_full HO.out
      have HSl := Lib.hid hSl
      have hsum := sumN_lt M
      clear hlt HE hSl
      go_wp2_with (first
        | (go_at_call 42; refine (sum_any _ A3 n3 c3 M HSl.out.len.out (by have := HSl.out.len.out; have := HML.out; omega) HBY.out HSl.out.byt).mono ?_; rintro e u ⟨rfl, rfl⟩)
        | (go_at_call 41; refine (put_any _ w.heap.size _ M (sumN M) 4 HO.out HB.out.size (by have := HML.out; omega)).mono ?_; rintro e w6 ⟨v6, rfl, hO6, hU6⟩; rw [HE2.out] at hO6))
      go_ret
      exact ⟨_, rfl, hO6, HB.out.trans hU6.below⟩
end Go.Proofs.Ytkfcfoidaalnlaa.Pak
