/- Contracts of package zone: list, Cons, Empty. -/
import Derived.Test.YtejcijbohnlbgaaZG
import Derived.Test.YtejcijbohnlbgaaZOwn
namespace Go.Proofs.Ytejcijbohnlbgaa
open Go.ChangeShapes Go.WideShapes Go.ChangeAt Go.RowKit
open Zon
set_option linter.unusedVariables false
set_option maxRecDepth 100000
theorem run_index_arr {P : Program} (w : World) (t e : TypeId) (n : Nat) (f : Nat → Value) (k : Nat) (h : P.underlying t = some (.array n e)) (ha : ∃ d, P.underlying e = some d ∧ (match d with | .struct _ | .array _ _ => true | _ => false) = false) (hs : (P.info? e).map (·.size) = some 1) (hk : k < n) :
    (Instr.index t (.agg (arr n f)) (.int .i64 k)).run P w = .ok (f k) w := by
  obtain ⟨d, hd1, hd2⟩ := ha
  have hagg : (isAgg e).run P w = .ok false w := by
    unfold isAgg
    rw [Sem.run_bind, run_underlying hd1 w]
    cases d <;> simp_all
  cases hq : P.info? e with
  | none => simp [hq] at hs
  | some i =>
    have hs1 : i.size = 1 := by simpa [hq] using hs
    simp [Instr.index, asIntOf, Sem.run_bind, run_underlying h w, part, hagg, sizeOf, typeInfo, hq, hs1, hk, arr_get n f k hk]
theorem undInt : ∃ d, Try.prog.underlying 3 = some d ∧ (match d with | .struct _ | .array _ _ => true | _ => false) = false := ⟨_, Try.underlying3, rfl⟩
theorem sizeInt : (Try.prog.info? 3).map (·.size) = some 1 := by kernel_rfl
theorem index_row (w : World) (f : Nat → Value) (k : Nat) (hk : k < 60) : (Instr.index 101 (.agg (arr 60 f)) (.int .i64 k)).run Try.prog w = .ok (f k) w :=
  run_index_arr w 101 3 60 f k Try.underlying101 undInt sizeInt hk
def Owned (e : TypeId) (w : World) (L : List Con) (en : Ending) (w' : World) : Prop := ∃ v, en = .returned v ∧ OwnC e w' w.heap.size v L ∧ Below w.heap.size w w'
def InList (w : World) (g : Nat) (M : Tab) (v : Value) (L : List Con) (wr : World) : Prop := OwnC 45 wr w.heap.size v L ∧ Below w.heap.size w wr
set_option maxHeartbeats 4000000 in
theorem list_any (w : World) (g : Nat) (e : Bool) (M : Tab) (hz : ZB w g e M) :
    Calls Try.prog 61 #[.pointer (some ⟨g, 1, none⟩)] w (Owned 45 w (consT M)) := by
  have HZ := Lib.hid hz
  clear hz
  go_enter Try.func61, Try.ntmps61
  go_wp2_with fail
  go_loopw [7, 3] (fun i v wr => ∃ k : Nat, k ≤ 60 ∧ i = .int .i64 k ∧ OwnC 45 wr w.heap.size v (consN M k) ∧ Below w.heap.size w wr) (fun i _ _ => (60 - intOf i).toNat)
  case atStart => exact ⟨0, by omega, rfl, OwnC.nil _ _ _, Below.refl _ _⟩
  case round =>
    obtain ⟨k, hk, rfl, hO, hB⟩ := hrel
    by_cases hlt : k < 60
    · have hlt' : (k : Int) < 60 := by omega
      have hk0 : (0 : Int) ≤ k := by omega
      have HZk := Lib.hid (HZ.out.below hB HZ.out.lt)
      have HO := Lib.hid hO
      have HB := Lib.hid hB
      have HLK := Lib.hid (consN_len M k)
      clear hO hB
      go_upto_region 5 with (fail)
      go_wp2_with (refine wpList_load_seg rfl 101 _ rfl g (1 + k * 60) rfl 106 3601 60 (zc e M) _ HZk.out (by omega) Try.underlying101 rfl sizeRow ?_)
      obtain ⟨wo, rfl⟩ : ∃ wo : World, wo = wr := ⟨_, rfl⟩
      go_loopw [15, 3] (fun i v wr => ∃ j : Nat, j ≤ 60 ∧ i = .int .i64 j ∧ OwnC 45 wr w.heap.size v (consN M k ++ rowN M k j) ∧ Below w.heap.size w wr) (fun i _ _ => (60 - intOf i).toNat)
      case atStart => exact ⟨0, by omega, rfl, by rw [show rowN M k 0 = [] from rfl, List.append_nil]; exact HO.out, HB.out⟩
      case round =>
        clear HO HB HZk
        obtain ⟨j, hj, rfl, hO, hB⟩ := hrel
        by_cases hjt : j < 60
        · have hjt' : (j : Int) < 60 := by omega
          have hj0 : (0 : Int) ≤ j := by omega
          have hix := fun W => index_row W (fun q => zc e M (1 + k * 60 + q)) j hjt
          simp only [zc_at e M k j hjt] at hix
          have HO := Lib.hid hO
          have HB := Lib.hid hB
          have HLJ := Lib.hid (rowN_len M k j)
          obtain ⟨A, m, c, rfl, HM⟩ := hO.form'
          have HLL := Lib.hid (show (consN M k ++ rowN M k j).length + 1 ≤ 8000000000000 by rw [List.length_append]; have := HLK.out; have := HLJ.out; omega)
          clear hO hB hjt
          have hno : ∀ h : (k = j ∨ M k j = 3458764513820540928), consN M k ++ rowN M k (j + 1) = consN M k ++ rowN M k j := fun h => by rw [rowN_no h]
          have HNO := Lib.hid hno
          have HYES := Lib.hid (fun (h1 : k ≠ j) (h2 : M k j ≠ 3458764513820540928) => show consN M k ++ rowN M k (j + 1) = (consN M k ++ rowN M k j) ++ [⟨k, j, M k j⟩] by rw [rowN_yes h1 h2, List.append_assoc])
          clear hno HLJ
          by_cases h1 : k = j
          · have HE := Lib.hid (HNO.out (.inl h1))
            subst h1
            clear HNO HYES
            go_wp2_with fail
            go_roundw
            case rel => exact ⟨k + 1, by omega, by go_num, by rw [HE.out]; exact HO.out, HB.out⟩
            case measure => simp [intOf]; omega
          · have t1 : ((k : Int) == (j : Int)) = false := by rw [beq_eq_false_iff_ne]; omega
            have t2 : ((k : Int) != (j : Int)) = true := by rw [bne_iff_ne]; omega
            by_cases h2 : M k j = 3458764513820540928
            · have HE := Lib.hid (HNO.out (.inr h2))
              have t3 : (M k j == 3458764513820540928) = true := by rw [h2]; rfl
              have t4 : (M k j != 3458764513820540928) = false := by rw [h2]; rfl
              clear HNO HYES h1 h2
              go_wp2_with fail
              go_roundw
              case rel => exact ⟨j + 1, by omega, by go_num, by rw [HE.out]; exact HO.out, HB.out⟩
              case measure => simp [intOf]; omega
            · have HE := Lib.hid (HYES.out h1 h2)
              have t3 : (M k j == 3458764513820540928) = false := by rw [beq_eq_false_iff_ne]; exact h2
              have t4 : (M k j != 3458764513820540928) = true := by rw [bne_iff_ne]; exact h2
              clear HNO HYES h1 h2
              have HSZ := Lib.hid (fun o => Nat.le_trans HB.out.size (below_box wr o).size)
              generalize consN M k ++ rowN M k j = L at *
              generalize M k j = mkj at *
              go_wp2_with (at_builtin; (refine append_con 28 45 Try.underlying28 con_info _ rfl (.tmp 26) (.tmp 31) rfl w.heap.size _ _ rfl (HO.out.up (below_box wr _)) _ 1 _ [_] rfl rfl (cons_one wr _ _ _ _) HLL.out (HSZ.out _) ?_; intro v' w' hown' hB'))
              go_roundw
              case rel => exact ⟨j + 1, by omega, by go_num, by rw [HE.out]; exact hown', HB.out.trans (((below_box wr _).mono HB.out.size).trans hB')⟩
              case measure => simp [intOf]; omega
        · obtain rfl : j = 60 := by omega
          rw [← consN_succ] at hO
          go_wp2_with fail
          go_roundw
          case rel => exact ⟨k + 1, by omega, by go_num, hO, hB⟩
          case measure => simp [intOf]; omega
    · obtain rfl : k = 60 := by omega
      go_wp2_with fail
      go_ret
      exact ⟨_, rfl, hO, hB⟩
def consZC (e : Bool) (M : Tab) : List Con := if e then [] else consT M
set_option maxHeartbeats 1000000 in
theorem Cons_any (w : World) (g : Nat) (z : Zn) (hz : ZoneAt w g z) :
    Calls Try.prog 22 #[.pointer (some ⟨g, 0, none⟩)] w (Owned 45 w (consZ z)) := by
  cases z with
  | none =>
    have hx := ZB.head (show ZB w g true zeroM from hz)
    clear hz
    go_enter Try.func22, Try.ntmps22
    go_wp2_with fail
    go_ret
    exact ⟨_, rfl, OwnC.nil _ _ _, Below.refl _ _⟩
  | some M =>
    have hx := ZB.head hz.1
    have HL := Lib.hid (list_any w g false M hz.1)
    clear hz
    go_enter Try.func22, Try.ntmps22
    go_wp2_with fail
    go_at_call 61
    refine HL.out.mono ?_
    rintro e w2 ⟨v, rfl, hO, hB⟩
    go_wp2_with fail
    go_ret
    exact ⟨v, rfl, hO, hB⟩
def voidB : Zn → Bool | none => true | some _ => false
theorem Empty_any (w : World) (g : Nat) (z : Zn) (hz : ZoneAt w g z) :
    Calls Try.prog 62 #[.pointer (some ⟨g, 0, none⟩)] w fun e w' => e = .returned (.bool (voidB z)) ∧ w = w' := by
  obtain ⟨b, hb, hx⟩ : ∃ b, voidB z = b ∧ w.cell? ⟨g, 0, none⟩ = some (.bool b) := by
    cases z with
    | none => exact ⟨true, rfl, ZB.head (show ZB w g true zeroM from hz)⟩
    | some M => exact ⟨false, rfl, ZB.head hz.1⟩
  rw [hb]
  clear hz hb
  go_enter Try.func62, Try.ntmps62
  go_wp2_with fail
  go_ret
  exact ⟨rfl, rfl⟩
end Go.Proofs.Ytejcijbohnlbgaa
