/- Package pack: the sizes. -/
import Derived.Test.YtkfcfoidaalnlaaPkB
namespace Go.Proofs.Ytkfcfoidaalnlaa.Pak
open Go.ChangeShapes Go.WideShapes Go.ChangeAt Go.RowKit
set_option linter.unusedVariables false
set_option linter.unusedSimpArgs false
set_option maxRecDepth 100000
theorem ret_i64 {a b : Int} (h : a = b) : Ending.returned (.int .i64 a) = .returned (.int .i64 b) := by rw [h]
theorem ret_bool {a b : Bool} (h : a = b) : Ending.returned (.bool a) = .returned (.bool b) := by rw [h]
def okN (n : Int) : Bool := decide (1 ≤ n) && decide (n ≤ 64)
theorem rows_any (n : Int) (w : World) : Calls Try.prog 52 #[.int .i64 n] w fun e w' => e = .returned (.bool (okN n)) ∧ w = w' := by
  go_enter Try.func52, Try.ntmps52
  unfold okN
  cases h1 : decide (1 ≤ n)
  · go_wp2_with fail
    go_ret
    exact ⟨rfl, rfl⟩
  · cases h2 : decide (n ≤ 64)
    · go_wp2_with fail
      go_ret
      exact ⟨rfl, rfl⟩
    · go_wp2_with fail
      go_ret
      exact ⟨rfl, rfl⟩
theorem wide_any (n : Int) (w : World) : Calls Try.prog 53 #[.int .i64 n] w fun e w' => e = .returned (.bool (okN n)) ∧ w = w' := by
  go_enter Try.func53, Try.ntmps53
  unfold okN
  cases h1 : decide (1 ≤ n)
  · go_wp2_with fail
    go_ret
    exact ⟨rfl, rfl⟩
  · cases h2 : decide (n ≤ 64)
    · go_wp2_with fail
      go_ret
      exact ⟨rfl, rfl⟩
    · go_wp2_with fail
      go_ret
      exact ⟨rfl, rfl⟩
def tabF (x : Int × Int) : Nat → Value
  | 0 => .int .i64 x.1
  | _ => .int .i64 x.2
theorem okT_eq (x : Int × Int) : okT x = (okN x.1 && okN x.2) := rfl
set_option maxHeartbeats 1000000 in
theorem odd_any (x : Int × Int) (w : World) : Calls Try.prog 36 #[.agg (arr 2 (tabF x))] w (RetB w (.bool (!okT x))) := by
  obtain ⟨r, d⟩ := x
  obtain ⟨T, hT⟩ : ∃ T, T = tabF (r, d) := ⟨_, rfl⟩
  rw [← hT]
  have HTT := Lib.hid hT
  clear hT
  rw [okT_eq]
  go_enter Try.func36, Try.ntmps36
  go_upto_region 1 with (refine wpList_box_seg rfl _ (.tmp 0) rfl 2 T rfl ?_; intro w1 h1 hB1 hs1)
  obtain ⟨gb, hgb⟩ : ∃ gb, gb = w.heap.size := ⟨_, rfl⟩
  rw [← hgb] at h1 ⊢
  have x0 : w1.cell? ⟨gb, 0, none⟩ = some (.int .i64 r) := by rw [h1.cell 0 (by decide), HTT.out]; rfl
  have x1 : w1.cell? ⟨gb, 1, none⟩ = some (.int .i64 d) := by rw [h1.cell 1 (by decide), HTT.out]; rfl
  have HB := Lib.hid hB1
  clear h1 hB1 hs1 hgb HTT
  cases e1 : okN r
  · go_wp2_with (first | (go_at_call 52; refine (rows_any r _).mono ?_; rintro e u ⟨rfl, rfl⟩; rw [e1]) | (go_at_call 53; refine (wide_any d _).mono ?_; rintro e u ⟨rfl, rfl⟩))
    go_ret
    exact ⟨by rw [e1]; rfl, HB.out⟩
  · cases e2 : okN d
    · go_wp2_with (first | (go_at_call 52; refine (rows_any r _).mono ?_; rintro e u ⟨rfl, rfl⟩; rw [e1]) | (go_at_call 53; refine (wide_any d _).mono ?_; rintro e u ⟨rfl, rfl⟩; rw [e2]))
      go_ret
      exact ⟨by rw [e1, e2]; rfl, HB.out⟩
    · go_wp2_with (first | (go_at_call 52; refine (rows_any r _).mono ?_; rintro e u ⟨rfl, rfl⟩; rw [e1]) | (go_at_call 53; refine (wide_any d _).mono ?_; rintro e u ⟨rfl, rfl⟩; rw [e2]))
      go_ret
      exact ⟨by rw [e1, e2]; rfl, HB.out⟩
def idxF {α : Type} (p : α → Bool) (j : Nat) : List α → Int
  | [] => -1
  | x :: t => if p x = true then (j : Int) else idxF p (j + 1) t
theorem idxF_any {α : Type} (p : α → Bool) : ∀ (l : List α) (j : Nat), decide (0 ≤ idxF p j l) = l.any p
  | [], j => rfl
  | x :: t, j => by
    unfold idxF
    cases h : p x
    · rw [if_neg (by simp), idxF_any p t, List.any_cons, h, Bool.false_or]
    · rw [if_pos rfl, List.any_cons, h, Bool.true_or]
      exact decide_eq_true (by omega)
theorem drop_cons {α : Type} {l : List α} {j : Nat} (h : j < l.length) : ∃ a, l[j]? = some a ∧ l.drop j = a :: l.drop (j + 1) := ⟨l[j], List.getElem?_eq_getElem h, List.drop_eq_getElem_cons h⟩
theorem sizeTab : (Try.prog.info? 60).map (·.size) = some 2 := by kernel_rfl
theorem size_up {w w' : World} {B : Nat} (h : Below B w w') (hb : B ≤ w.heap.size) : B ≤ w'.heap.size := Nat.le_trans hb h.size
set_option maxHeartbeats 2000000 in
theorem index_tab (w : World) (A : Option Addr) (n c : Nat) (T : List (Int × Int)) (hL : T.length = n) (hn : n ≤ 1152921504606846976) (hA : RowsAt w A 2 tabF T) (K : Nat) (p : Int × Int → Bool)
    (hen : ∀ (a : Array Value) (W : World), (callFunc K a).run Try.prog W = .ok (.enter K a) W)
    (hf : ∀ x W, Calls Try.prog K #[.agg (arr 2 (tabF x))] W (RetB W (.bool (p x)))) :
    Calls Try.prog 51 #[.slice A n c, .func (.func K) #[] #[]] w (RetB w (.int .i64 (idxF p 0 T))) := by
  have HL := Lib.hid hL
  have HA := Lib.hid hA
  have HF := Lib.hid hf
  clear hL hA hf
  go_enter Try.func51, Try.ntmps51
  go_wp2_with fail
  go_loopw [5, 8, 9, 10, 11, 12, 13, 14, 15, 16, 18] (fun _ a8 _ _ _ _ _ _ _ _ _ wr => ∃ (j : Nat), a8 = .int .i64 j ∧ j ≤ n ∧ Hid (idxF p j (T.drop j) = idxF p 0 T) ∧ RowsAt wr A 2 tabF T ∧ Below w.heap.size w wr) (fun _ a8 _ _ _ _ _ _ _ _ _ _ => (n - (intOf a8)).toNat)
  case atStart => exact ⟨0, rfl, Nat.zero_le _, Lib.hid rfl, HA.out, Below.refl _ _⟩
  case round =>
    obtain ⟨j, rfl, hj, HE, hT, hB⟩ := hrel
    have HT := Lib.hid hT
    have HB := Lib.hid hB
    clear hT hB HA
    by_cases hlt : j < n
    · have hlt' : (j : Int) < n := by omega
      obtain ⟨x, hx, hdr⟩ := drop_cons (l := T) (j := j) (by have := HL.out; omega)
      rw [hdr] at HE
      obtain ⟨b, off, rfl, hbl, hcell⟩ := HT.out (by have := HL.out; omega)
      have HX := Lib.hid (hcell j x hx)
      clear hdr hcell hx
      obtain ⟨X, hX⟩ : ∃ X, X = tabF x := ⟨_, rfl⟩
      rw [← hX] at HX
      have HXX := Lib.hid hX
      clear hX
      go_wp2_with (refine wpList_load_cells rfl 60 _ rfl b (off + j * 2) rfl 2 X _ HX.out Try.underlying60 rfl sizeTab ?_)
      rw [HXX.out]
      refine (HF.out x wr).mono ?_
      rintro e w2 ⟨rfl, hB2⟩
      have HB2 := Lib.hid (HB.out.trans (hB2.mono HB.out.size))
      have HT2 := Lib.hid (HT.out.below hB2)
      have HE' := HE.out
      change (if p x = true then (j : Int) else idxF p (j + 1) (T.drop (j + 1))) = idxF p 0 T at HE'
      clear hB2 HX HB HT HE
      cases hp : p x
      · rw [hp, if_neg (by simp)] at HE'
        have HE2 := Lib.hid HE'
        clear HE' hp
        go_wp2_with fail
        go_roundw
        case rel => exact ⟨j + 1, by go_num, by omega, HE2, HT2.out, HB2.out⟩
        case measure => simp [intOf]; omega
      · rw [hp, if_pos rfl] at HE'
        have HE2 := Lib.hid HE'
        clear HE' hp
        go_wp2_with fail
        go_ret
        exact ⟨ret_i64 HE2.out, HB2.out⟩
    · obtain rfl : j = n := by omega
      have HE2 := Lib.hid (show -1 = idxF p 0 T by rw [← HE.out, List.drop_of_length_le (by have := HL.out; omega)]; rfl)
      clear hlt HE
      go_wp2_with fail
      go_ret
      exact ⟨ret_i64 HE2.out, HB.out⟩
set_option maxHeartbeats 2000000 in
theorem contains_any (w : World) (A : Option Addr) (n c : Nat) (T : List (Int × Int)) (hL : T.length = n) (hn : n ≤ 1152921504606846976) (hA : RowsAt w A 2 tabF T) :
    Calls Try.prog 35 #[.slice A n c, .func (.func 36) #[] #[]] w (RetB w (.bool (T.any fun x => !okT x))) := by
  rw [← idxF_any _ T 0]
  go_enter Try.func35, Try.ntmps35
  go_wp2_with (go_at_call 51; refine (index_tab w A n c T hL hn hA 36 (fun x => !okT x) (fun a W => by kernel_rfl) (fun x W => odd_any x W)).mono ?_; rintro e w1 ⟨rfl, hB⟩)
  go_ret
  exact ⟨rfl, hB⟩
theorem all_any (T : List (Int × Int)) : (T.any fun x => !okT x) = !(T.all okT) := by
  induction T with
  | nil => rfl
  | cons x t ih => rw [List.any_cons, List.all_cons, ih, Bool.not_and]
set_option maxHeartbeats 2000000 in
theorem wrong_any (w : World) (lo hi : Int) (A A' : Option Addr) (n c n' c' : Nat) (T : List (Int × Int)) (hL : T.length = n) (hn : n ≤ 1152921504606846976) (hA : RowsAt w A 2 tabF T) :
    Calls Try.prog 22 #[.int .i64 lo, .int .i64 hi, .slice A n c, .slice A' n' c'] w (RetB w (.int .i64 (sizesE lo hi T n'))) := by
  have HA := Lib.hid hA
  have HL := Lib.hid hL
  clear hA hL
  unfold sizesE
  go_enter Try.func22, Try.ntmps22
  by_cases h1 : lo < 0
  · have t1 : decide (lo < 0) = true := decide_eq_true h1
    rw [if_pos (Or.inl h1)]
    clear h1
    go_wp2_with fail
    go_ret
    exact ⟨rfl, Below.refl _ _⟩
  have t1 : decide (lo < 0) = false := decide_eq_false h1
  by_cases h2 : hi < lo
  · have t2 : decide (hi < lo) = true := decide_eq_true h2
    rw [if_pos (Or.inr (Or.inl h2))]
    clear h1 h2
    go_wp2_with fail
    go_ret
    exact ⟨rfl, Below.refl _ _⟩
  have t2 : decide (hi < lo) = false := decide_eq_false h2
  by_cases h3 : 65535 < hi
  · have t3 : decide (65535 < hi) = true := decide_eq_true h3
    rw [if_pos (Or.inr (Or.inr h3))]
    clear h1 h2 h3
    go_wp2_with fail
    go_ret
    exact ⟨rfl, Below.refl _ _⟩
  have t3 : decide (65535 < hi) = false := decide_eq_false h3
  rw [if_neg (by omega)]
  clear h1 h2 h3
  by_cases h4 : 8 < n
  · have t4 : decide (8 < (n : Int)) = true := decide_eq_true (by omega)
    rw [if_pos (Or.inl (by rw [HL.out]; exact h4))]
    clear h4
    go_wp2_with fail
    go_ret
    exact ⟨rfl, Below.refl _ _⟩
  have t4 : decide (8 < (n : Int)) = false := decide_eq_false (by omega)
  cases h5 : T.all okT
  · rw [if_pos (Or.inr rfl)]
    have HC := Lib.hid (contains_any w A n c T HL.out hn HA.out)
    rw [all_any, h5] at HC
    clear h4 h5
    go_wp2_with (go_at_call 35; refine HC.out.mono ?_; rintro e w1 ⟨rfl, hB⟩)
    go_ret
    exact ⟨rfl, hB⟩
  rw [if_neg (by rw [HL.out]; simp; omega)]
  have HC := Lib.hid (contains_any w A n c T HL.out hn HA.out)
  rw [all_any, h5] at HC
  clear h4 h5
  by_cases h6 : 4096 < n'
  · have t6 : decide (4096 < (n' : Int)) = true := decide_eq_true (by omega)
    rw [if_pos h6]
    clear h6
    go_wp2_with (go_at_call 35; refine HC.out.mono ?_; rintro e w1 ⟨rfl, hB⟩)
    go_ret
    exact ⟨rfl, hB⟩
  · have t6 : decide (4096 < (n' : Int)) = false := decide_eq_false (by omega)
    rw [if_neg h6]
    clear h6
    go_wp2_with (go_at_call 35; refine HC.out.mono ?_; rintro e w1 ⟨rfl, hB⟩)
    go_ret
    exact ⟨rfl, hB⟩
end Go.Proofs.Ytkfcfoidaalnlaa.Pak
