/- The lender of bytes: Back; what lies behind it are bytes. -/
import Derived.Test.YtkfcfoidaalnlaaLnHLend
import Derived.BigRegion
namespace Go.Proofs.Ytkfcfoidaalnlaa.Ln
open Go.ChangeShapes Go.WideShapes Go.ChangeAt Go.RowKit
open Bits
set_option linter.unusedVariables false

theorem xor_u8 (x y : Int) : 0 ≤ bits BinOp.xor IntKind.u8 x y ∧ bits BinOp.xor IntKind.u8 x y < 256 := by
  have h : bits BinOp.xor IntKind.u8 x y = IntKind.u8.wrap (((BitVec.ofInt 8 x ^^^ BitVec.ofInt 8 y).toNat : Nat) : Int) := rfl
  rw [h]
  simp only [IntKind.wrap, IntKind.signed, IntKind.bits]
  simp
  omega
theorem byt_setX {L : List Int} (h : Byt L) (i : Nat) (x : Int) (hx : 0 ≤ x ∧ x < 256) : Byt (L.set i x) := fun y hy => by
  rcases List.mem_or_eq_of_mem_set hy with h1 | h1
  · exact h y h1
  · rw [h1]; exact hx
theorem conv_zero (w : World) (p : Option Addr) (c : Nat) : (convert 22 9 (.slice p 0 c)).run Try.prog w = .ok (.string (strOfNums [])) w := by
  cases p with
  | none => exact run_convert_bytes_nil w 22 5 Try.underlying22 Try.underlying5 0 c 9 Try.underlying9
  | some a =>
    rw [run_convert_bytes_string w 22 9 5 _ 0 c Try.underlying22 Try.underlying5 Try.underlying9]
    simp [Conv.bytesToString, loadCells]
    rfl
theorem conv_any (w : World) (A : Option Addr) (n c : Nat) (L : List Int) (hL : L.length = n) (h : BytesAt w A L) :
    (convert 22 9 (.slice A n c)).run Try.prog w = .ok (.string (strOfNums L)) w := by
  rcases Nat.eq_zero_or_pos n with h0 | h0
  · subst h0
    obtain rfl : L = [] := List.eq_nil_of_length_eq_zero hL
    exact conv_zero w A c
  · exact conv_at w A n c L hL h0 h
theorem same_all (w : World) (A : Option Addr) (n c : Nat) (A' : Option Addr) (c' : Nat) (L : List Int) (hL : L.length = n) (h : BytesAt w A L) (h' : BytesAt w A' L) :
    Calls Try.prog 14 #[.slice A n c, .slice A' n c'] w fun e w' => e = .returned (.bool true) ∧ w = w' := by
  have H1 := conv_any w A n c L hL h
  have H2 := conv_any w A' n c' L hL h'
  clear h h' hL
  generalize strOfNums L = S at *
  go_enter Try.func14, Try.ntmps14
  go_wp2
  go_ret
  exact ⟨rfl, rfl⟩
theorem _root_.Go.Proofs.Ytkfcfoidaalnlaa.ByteBlk.begin_ {w : World} {r : Nat} {L T : List Int} (h : ByteBlk w r (L ++ T)) : BytesAt w (some ⟨r, 0, none⟩) L :=
  fun _ => ⟨r, 0, rfl, h.lt, fun i hi => by rw [Nat.zero_add, h.cell i (by simp; omega), List.getElem?_append_left hi]⟩

theorem mark_at (L D : List Int) (j : Nat) (h : j < L.length + 70) : (L ++ (marks (L.length + 70) ++ D))[L.length + j]?.getD 0 = beh j := by
  rw [List.getElem?_append_right (by omega), Nat.add_sub_cancel_left, List.getElem?_append_left (by rw [marks_length]; exact h)]
  simp [marks, h]

/-- what Back leaves -/
def BackPost (base g r m n : Nat) (w : World) (e : Ending) (w' : World) : Prop :=
  ∃ R', R'.length = m ∧ Byt (R'.take n) ∧ ByteBlk w' r R' ∧ e = .returned (.bool true) ∧ Room w' g (some r) R' ∧ Keep2 g (some r) w w' ∧ Below base w w'

set_option maxRecDepth 100000 in
set_option maxHeartbeats 2000000 in
theorem back_any (w : World) (g r m : Nat) (L D : List Int) (hlent : Lent w g r L D) (A : Option Addr) (n c : Nat) (hL : L.length = n) (hn : n ≤ 1048576) (hm : L.length + (L.length + 70) + D.length = m) (hR : m ≤ 1099511627776)
    (hat : BytesAt w A L) (hLB : Byt L) (base : Nat) (hbase : base ≤ r) :
    Calls Try.prog 12 #[.pointer (some ⟨g, 0, none⟩), .slice A n c] w (BackPost base g r m n w) := by
  obtain ⟨hrg, hb, hg⟩ := hlent
  rw [hm] at hg
  have hc := hg.cell 0
  simp only [List.getElem?_toArray, List.getElem?_cons_zero] at hc
  have HB := Lib.hid hb
  have hsame := fun w'' cc => same_all w'' (some ⟨r, 0, none⟩) n cc A c L hL
  have HS := Lib.hid (same_all w (some ⟨r, 0, none⟩) n m A c L hL hb.begin_ hat)
  have hlen : (L ++ (marks (L.length + 70) ++ D)).length = m := by simp only [List.length_append, marks_length]; omega
  have HLEN := Lib.hid hlen
  have HL := Lib.hid hL
  have HM := Lib.hid hm
  have hbd : n ≤ m := by omega
  have hbd' : (n : Int) ≤ m := by omega
  have hnm : 2 * n + 70 ≤ m := by omega
  clear hsame hlen hL hm hb hat
  go_enter Try.func12, Try.ntmps12
  go_wp2_with ((refine HS.out.mono ?_); rintro e w' ⟨rfl, rfl⟩)
  clear HS
  go_loopw [6, 7] (fun ok i wr => ∃ j q : Nat, j ≤ n + 70 ∧ ok = .bool true ∧ i = .int .i64 j ∧ wr = w.drewN q) (fun _ i _ => (n + 70 - intOf i).toNat)
  case atStart => exact ⟨0, 0, by omega, rfl, rfl, rfl⟩
  case round =>
    obtain ⟨j, q, hj, rfl, rfl, hwr⟩ := hrel
    have hcw : wr.cell? ⟨g, 0, none⟩ = some (.slice (some ⟨r, 0, none⟩) m m) := by rw [hwr]; exact hc
    have hgw : Blk wr g 28 #[.slice (some ⟨r, 0, none⟩) m m] := by rw [hwr]; exact hg
    have HBw := Lib.hid (show ByteBlk wr r (L ++ (marks (L.length + 70) ++ D)) by rw [hwr]; exact HB.out)
    have HK := Lib.hid (show Keep2 g (some r) w wr from fun b _ _ _ => by rw [hwr]; rfl)
    have HBel := Lib.hid (show Below base w wr by rw [hwr]; exact below_drewN (Below.refl _ _) q)
    have HWR := Lib.hid hwr
    clear hwr hc hg
    by_cases hlt : j < n + 70
    · have h1 : (j : Int) < n + 70 := by omega
      have hx := HBw.out.cell (n + j) (by have := HLEN.out; omega)
      have hv : (L ++ (marks (L.length + 70) ++ D))[n + j]?.getD 0 = beh j := by
        have := mark_at L D j (by rw [HL.out]; exact hlt)
        rwa [HL.out] at this ⊢
      rw [hv] at hx
      clear hv
      have hcall := behind_any j (by omega)
      generalize beh j = x at *
      have hbd1 : (n : Int) + j < m := by omega
      have e1 : IntKind.i64.wrap ((n : Int) + (j : Int)) = (n : Int) + (j : Int) := IntWalk.i64_in _ (by omega)
      have e2 : (0 : Int) ≤ (n : Int) + (j : Int) := by omega
      have e3 : ((n : Int) + (j : Int)).toNat = n + j := by omega
      go_wp2_with fail
      go_quiet ((go_at_call 21; exact Calls.quiet_of_same ((hcall _).mono fun _ _ ⟨h1, h2⟩ => ⟨h1, h2.symm⟩)))
      clear e1 e2 e3
      go_wp2_with fail
      go_roundw
      case rel => exact ⟨j + 1, q + nq, by omega, by simp, by go_num, by rw [HWR.out, World.drewN_drewN]⟩
      case measure => simp [intOf]; omega
    · have h1 : decide ((j : Int) < n + 70) = false := by simp; omega
      go_wp2_with fail
      clear h1 hcw
      obtain ⟨wo, rfl⟩ : ∃ wo : World, wo = wr := ⟨_, rfl⟩
      go_loopw [8] (fun i ws => ∃ (j : Nat) (R' : List Int), j ≤ n ∧ i = .int .i64 j ∧ R'.length = m ∧ Hid (Byt (R'.take n)) ∧ ByteBlk ws r R' ∧ Blk ws g 28 #[.slice (some ⟨r, 0, none⟩) m m] ∧ Keep2 g (some r) w ws ∧ Below base w ws) (fun i _ => (n - intOf i).toNat)
      case atStart => exact ⟨0, _, by omega, rfl, HLEN.out, Lib.hid (by rw [List.take_left' HL.out]; exact hLB), HBw.out, hgw, HK.out, HBel.out⟩
      case round =>
        clear hgw HBw HK HBel HWR
        obtain ⟨j', R', hj', rfl, hRl, HRB, hbs, hgs, hKs, hBs⟩ := hrel
        have hcs := hgs.cell 0
        simp only [List.getElem?_toArray, List.getElem?_cons_zero] at hcs
        by_cases hlt' : j' < n
        · have h1 : (j' : Int) < n := by omega
          have h2 : (j' : Int) < m := by omega
          have hx := hbs.cell j' (by omega)
          have hf := hbs.frozen j'
          generalize R'[j']?.getD 0 = x at hx
          have HRl := Lib.hid hRl
          have HS := Lib.hid (fun u => hbs.set_ j' u)
          have HGs := Lib.hid hgs
          clear hRl hgs hbs
          go_wp2_with fail
          go_region
          go_wp2_with fail
          go_roundw
          case rel =>
            refine ⟨j' + 1, _, by omega, by go_num, ?_, Lib.hid ?_, HS.out _, ?_, fun b hb hbg hbr' => ?_, hBs.drew.setCell hbase _⟩
            · rw [List.length_set]; exact HRl.out
            · rw [List.take_set]; exact byt_setX HRB.out _ _ (xor_u8 _ _)
            · exact HGs.out.far (p := ⟨r, j', none⟩) (Ne.symm hrg) _
            · exact (Below.heap_setCell wr ⟨r, j', none⟩ _ b (fun e => hbr' (by rw [e]))).trans (hKs b hb hbg hbr')
          case measure => simp [intOf]; omega
        · have h1 : decide ((j' : Int) < n) = false := by simp; omega
          have HP := Lib.hid (show BackPost base g r m n w (.returned (.bool true)) wr from ⟨R', hRl, HRB.out, hbs, rfl, .inr ⟨r, rfl, hrg, hbs, by rw [hRl]; exact hgs⟩, hKs, hBs⟩)
          clear hRl hbs hgs
          go_wp2_with fail
          go_ret
          exact HP.out
end Go.Proofs.Ytkfcfoidaalnlaa.Ln
