/- Contracts of package zone: sum, lower. -/
import Derived.Test.YtejcijbohnlbgaaZMem
namespace Go.Proofs.Ytejcijbohnlbgaa
open Go.ChangeShapes Go.WideShapes Go.ChangeAt Go.RowKit
open Zon
set_option linter.unusedVariables false
set_option maxRecDepth 100000
/-- numbers of a table: from the least bound to none -/
def Rn (x : Int) : Prop := -1152921504606846976 ≤ x ∧ x ≤ 3458764513820540928
theorem Rn.psum (a b : Int) : Rn (psum a b) := (psum_ok a b).rng
theorem ret_i64 {a b : Int} (h : a = b) : Ending.returned (.int .i64 a) = .returned (.int .i64 b) := by rw [h]
theorem wpList_drew {P : Program} {ops : Array Oper} {Q : Exit → Act → World → Prop} {l : List Oper} {a : Act} {W : World} (h : wpList P ops Q l a W.drew) :
    wpList P ops Q l a { heap := W.heap, tape := W.tape, drawn := W.drawn + 1, os := W.os, output := W.output } := h
theorem wp_region_tail {P : Program} {id : Nat} {Q : Exit → Act → World → Prop} {a : Act} {w : World} {l : List Oper} (n : Nat) (hm : P.follows .mixedOrders = true) (hB : Region.lexTailB .any l.toArray n = true)
    (h : ∀ W, W = w.drew → wpStill P l.toArray W (fun a' => wpList P l.toArray Q (l.drop n) a' W) (l.take n) a) : (Code.region id l.toArray true).wp P Q a w := wp_region_still_tail n hm hB (h w.drew rfl)
set_option maxHeartbeats 400000 in
theorem sum_any (a b : Int) (w : World) (ha : Rn a) (hb : Rn b) :
    Calls Try.prog 77 #[.int .i64 a, .int .i64 b] w fun e w' => e = .returned (.int .i64 (psum a b)) ∧ w = w' := by
  obtain ⟨a1, a2⟩ := ha
  obtain ⟨b1, b2⟩ := hb
  have HP := Lib.hid (show psum a b = if 1152921504606846976 < a + b then 3458764513820540928 else max (a + b) (-1152921504606846976) from rfl)
  by_cases h : 1152921504606846976 < a + b
  · have t : decide (1152921504606846976 < a + b) = true := decide_eq_true h
    have HE := Lib.hid (show psum a b = 3458764513820540928 by rw [HP.out, if_pos h])
    clear HP
    go_enter Try.func77, Try.ntmps77
    go_wp2
    go_ret
    exact ⟨ret_i64 (by rw [HE.out]), rfl⟩
  · have t : decide (1152921504606846976 < a + b) = false := decide_eq_false h
    have HE := Lib.hid (show psum a b = max (a + b) (-1152921504606846976) by rw [HP.out, if_neg h])
    clear HP
    go_enter Try.func77, Try.ntmps77
    go_wp2
    all_goals
      go_ret
      exact ⟨ret_i64 (by rw [HE.out]; omega), rfl⟩
/-- a row made lower by ways through another one -/
def lowR (r th : Nat → Int) (first : Int) : Nat → Int := fun q => min (r q) (psum first (th q))
theorem low_val (r th : Nat → Int) (first : Int) (k : Nat) : Value.int .i64 (if psum first (th k) < r k then psum first (th k) else r k) = (fun q => Value.int .i64 (lowR r th first q)) k := by
  show _ = Value.int .i64 (min (r k) (psum first (th k)))
  congr 1
  omega
set_option maxHeartbeats 1000000 in
theorem lower_any (w : World) (g o : Nat) (t : TypeId) (N : Nat) (f : Nat → Value) (g2 o2 : Nat) (t2 : TypeId) (N2 : Nat) (f2 : Nat → Value) (r th : Nat → Int) (first : Int)
    (hb : FB w g t N f) (hb2 : FB w g2 t2 N2 f2) (hne : g2 ≠ g) (ho : o + 60 ≤ N) (ho2 : o2 + 60 ≤ N2)
    (hr : ∀ q, q < 60 → f (o + q) = .int .i64 (r q)) (hth : ∀ q, q < 60 → f2 (o2 + q) = .int .i64 (th q)) (rr : ∀ q, q < 60 → Rn (r q)) (rth : ∀ q, q < 60 → Rn (th q)) (rf : Rn first) :
    Calls Try.prog 73 #[.pointer (some ⟨g, o, none⟩), .int .i64 first, .pointer (some ⟨g2, o2, none⟩)] w fun e w' =>
      e = .returned (.tuple #[]) ∧ FB w' g t N (updR f o 60 (fun q => .int .i64 (lowR r th first q))) ∧ Touch g w w' := by
  have HF := Lib.hid rf
  have HR := Lib.hid hr
  have HT := Lib.hid hth
  have HRR := Lib.hid rr
  have HRT := Lib.hid rth
  have HB := Lib.hid hb
  have HB2 := Lib.hid hb2
  clear rf hr hth rr rth hb hb2
  by_cases h : first = 3458764513820540928
  · have t1 : (first == 3458764513820540928) = true := by rw [h]; rfl
    have HQ := Lib.hid h
    clear h
    go_enter Try.func73, Try.ntmps73
    go_wp2
    refine bodyPost_ret (results_none rfl _ _ _) rfl ⟨rfl, ?_, Touch.refl _ _⟩
    refine HB.out.congr fun k hk => ?_
    unfold updR
    split
    · rename_i hi
      have e := HR.out (k - o) (by omega)
      rw [show o + (k - o) = k by omega] at e
      rw [e]
      have := HRR.out (k - o) (by omega)
      have h2 := HRT.out (k - o) (by omega)
      show Value.int .i64 (r (k - o)) = Value.int .i64 (min (r (k - o)) (psum first (th (k - o))))
      rw [psum_no _ _ HQ.out h2.1]
      unfold Rn at this
      rw [show min (r (k - o)) 3458764513820540928 = r (k - o) by omega]
    · rfl
  · have t1 : (first == 3458764513820540928) = false := by rw [beq_eq_false_iff_ne]; exact h
    clear h
    go_enter Try.func73, Try.ntmps73
    go_wp2
    go_loopw [11] (fun i wr => ∃ k : Nat, k ≤ 60 ∧ i = .int .i64 k ∧ FB wr g t N (updR f o k (fun q => .int .i64 (lowR r th first q))) ∧ Touch g w wr) (fun i _ => (60 - intOf i).toNat)
    case atStart => exact ⟨0, by omega, rfl, HB.out.congr fun k _ => by unfold updR; rw [if_neg (by omega)], Touch.refl _ _⟩
    case round =>
      obtain ⟨k, hk, rfl, hB, hT⟩ := hrel
      by_cases hlt : k < 60
      · have hlt' : (k : Int) < 60 := by omega
        have hk0 : (0 : Int) ≤ k := by omega
        have hx2 := (HB2.out.touch hT hne).cell (o2 + k) (by omega)
        rw [HT.out k hlt] at hx2
        have hx := hB.cell (o + k) (by omega)
        rw [show updR f o k (fun q => .int .i64 (lowR r th first q)) (o + k) = .int .i64 (r k) by unfold updR; rw [if_neg (by omega)]; exact HR.out k hlt] at hx
        have hf := hB.frozen (o + k)
        have hs := fun W => sum_any first (th k) W HF.out (HRT.out k hlt)
        have HS := Lib.hid hs
        have HBk := Lib.hid hB
        have HTk := Lib.hid hT
        clear hB hT hs hlt
        go_wp2_with fail
        go_quiet (fail)
        go_wp2_with fail
        refine wp_region_tail 13 (by kernel_rfl) (by kernel_rfl) fun W hW => ?_
        simp only [List.take_succ_cons, List.take_zero, List.drop_succ_cons, List.drop_zero]
        have hBW : FB W g t N (updR f o k (fun q => .int .i64 (lowR r th first q))) := by rw [hW]; exact HBk.out
        have hTW : Touch g w W := by rw [hW]; exact HTk.out.trans (Touch.drewN wr (nq + 1))
        have hxW := hBW.cell (o + k) (by omega)
        rw [show updR f o k (fun q => .int .i64 (lowR r th first q)) (o + k) = .int .i64 (r k) by unfold updR; rw [if_neg (by omega)]; exact HR.out k (by omega)] at hxW
        have hfW := hBW.frozen (o + k)
        have HBW := Lib.hid hBW
        have HTW := Lib.hid hTW
        clear hBW hTW hW hx hf HBk HTk
        iterate 9 still_step
        still_call ((HS.out _).mono fun e w'' h => ⟨h.1, h.2.symm⟩)
        iterate 3 still_step
        refine wpStill_nil ?_
        have HBn := Lib.hid (HBW.out.set_ (o + k) (.int .i64 (if psum first (th k) < r k then psum first (th k) else r k)))
        have HTn := Lib.hid (HTW.out.trans (Touch.set_ W (o + k) (.int .i64 (if psum first (th k) < r k then psum first (th k) else r k))))
        clear HBW HTW
        go_wp2_with fail
        go_roundw
        case rel =>
          refine ⟨k + 1, by omega, by go_num, ?_, HTn.out⟩
          refine HBn.out.congr fun j _ => ?_
          rw [low_val r th first k]
          exact updR_succ f _ o k j
        case measure => simp [intOf]; omega
      · obtain rfl : k = 60 := by omega
        go_wp2_with fail
        go_end0
        exact ⟨rfl, hB, hT⟩
end Go.Proofs.Ytejcijbohnlbgaa
