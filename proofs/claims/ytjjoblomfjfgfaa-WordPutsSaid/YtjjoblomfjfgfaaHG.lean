/- Package help: lists of numbers held against each other; the chapter's examples, which every law asks first. -/
import Derived.Test.YtjjoblomfjfgfaaHF
import Derived.Test.YtjjoblomfjfgfaaHB
namespace Go.Proofs.Ytjjoblomfjfgfaa
open Go.ChangeShapes Go.WideShapes Go.ChangeAt Go.RowKit
open Bits HM
set_option linter.unusedVariables false
set_option linter.unusedSimpArgs false

theorem list_drop_eq {L M : List Int} (k : Nat) (h1 : k < L.length) (h2 : k < M.length) (hd : L.length = M.length) : L.drop k = M.drop k ↔ L[k]?.getD 0 = M[k]?.getD 0 ∧ L.drop (k + 1) = M.drop (k + 1) := by
  rw [List.drop_eq_getElem_cons h1, List.drop_eq_getElem_cons h2, List.getElem?_eq_getElem h1, List.getElem?_eq_getElem h2, List.cons.injEq]
  rfl

theorem sameInts_any (w : World) (A B : Option Addr) (n m c d : Nat) (L M : List Int) (hL : L.length = n) (hM : M.length = m) (hn : n ≤ 1099511627776) (hm : m ≤ 1099511627776) (ha : IntsAt w A L) (hb : IntsAt w B M) :
    Calls Try.prog 13 #[.slice A n c, .slice B m d] w fun e w' => e = .returned (.bool (decide (L = M))) ∧ ∃ q, w' = w.drewN q := by
  by_cases hnm : n = m
  · subst hnm
    have HA := Lib.hid ha
    have HB := Lib.hid hb
    have GL := Lib.hid hL
    have GM := Lib.hid hM
    clear ha hb hL hM
    go_enter Try.func13, Try.ntmps13
    go_wp2_with fail
    go_loopw [5] (fun i wr => ∃ k : Nat, k ≤ n ∧ i = .int .i64 k ∧ Hid (decide (L.drop k = M.drop k) = decide (L = M)) ∧ ∃ q, wr = w.drewN q) (fun i _ => (n - intOf i).toNat)
    case atStart => exact ⟨0, Nat.zero_le _, rfl, Lib.hid rfl, 0, rfl⟩
    case round =>
      obtain ⟨k, hk, rfl, HD, q, rfl⟩ := hrel
      by_cases hlt : k < n
      · obtain ⟨b, off, rfl, hbl, hc⟩ := HA.out (by have := GL.out; omega)
        obtain ⟨b', off', rfl, hbl', hc'⟩ := HB.out (by have := GM.out; omega)
        have hx : (w.drewN q).cell? ⟨b, off + k, none⟩ = _ := hc k (by have := GL.out; omega)
        have hy : (w.drewN q).cell? ⟨b', off' + k, none⟩ = _ := hc' k (by have := GM.out; omega)
        have HE := Lib.hid (list_drop_eq (L := L) (M := M) k (by have := GL.out; omega) (by have := GM.out; omega) (by rw [GL.out, GM.out]))
        have f1 : (k : Int) < n := by omega
        clear hc hc'
        generalize L[k]?.getD 0 = x at *
        generalize M[k]?.getD 0 = y at *
        obtain ⟨W, hW⟩ : ∃ W, W = w.drewN q := ⟨_, rfl⟩
        rw [← hW] at hx hy ⊢
        have HW := Lib.hid hW
        clear hW
        go_upto_region 6 with (fail)
        go_region
        rcases hxy : (x != y) with _ | _
        · have e : x = y := by simpa using hxy
          have HN := Lib.hid (show decide (L.drop (k + 1) = M.drop (k + 1)) = decide (L = M) by
            rw [← HD.out]; apply decide_eq_decide.2; rw [HE.out]; simp [e])
          clear HD HE
          go_wp2_with fail
          go_roundw
          case rel => exact ⟨k + 1, by omega, by go_num, HN, q + 1, by rw [HW.out]; rfl⟩
          case measure => simp [intOf]; omega
        · have e : x ≠ y := by simpa using hxy
          have HN := Lib.hid (show decide (L = M) = false by
            rw [← HD.out]; apply decide_eq_false; rw [HE.out]; simp [e])
          clear HD HE
          go_wp2_with fail
          go_ret
          exact ⟨by rw [HN.out]; rfl, q + 1, by rw [HW.out]; rfl⟩
      · have f1 : decide ((k : Int) < n) = false := by simp; omega
        obtain rfl : k = n := by omega
        have HN := Lib.hid (show decide (L = M) = true by
          rw [← HD.out, List.drop_eq_nil_of_le (Nat.le_of_eq GL.out), List.drop_eq_nil_of_le (Nat.le_of_eq GM.out)]; rfl)
        clear HD
        go_wp2_with fail
        go_ret
        exact ⟨by rw [HN.out]; rfl, q, rfl⟩
  · have HN := Lib.hid (show decide (L = M) = false by
      apply decide_eq_false
      intro e
      rw [e, hM] at hL
      exact hnm hL.symm)
    have f1 : ((n : Int) != (m : Int)) = true := by simp; omega
    clear ha hb hL hM hnm
    go_enter Try.func13, Try.ntmps13
    go_wp2_with fail
    go_ret
    exact ⟨by rw [HN.out]; rfl, 0, rfl⟩

theorem ownI_ints {w : World} {base : Nat} {A : Option Addr} {n c : Nat} {L : List Int} (h : OwnI w base (.slice A n c) L) : IntsAt w A L := by
  obtain ⟨A', c', e, h2⟩ := h.form
  injection e with e1 e2 e3
  rw [e1]; exact h2
theorem intsAt_below {w w' : World} {A : Option Addr} {L : List Int} (h : IntsAt w A L) (hb : Below w.heap.size w w') : IntsAt w' A L := fun hp => by
  obtain ⟨b, off, e, hlt, hc⟩ := h hp
  exact ⟨b, off, e, by have := hb.size; omega, fun i hi => (hb.cell (p := ⟨b, off + i, none⟩) hlt).trans (hc i hi)⟩
theorem SigIs.five {w : World} {L : List Int} {l h : Int} {nl nh : Bool} {e : Ending} {w' : World} (hs : SigIs w L l h nl nh e w') (hL : L.length = 5) :
    ∃ A c, e = .returned (.tuple #[.agg #[.slice A 5 c, .int .i64 l, .int .i64 h, .bool nl, .bool nh], .bool true]) ∧ OwnI w' w.heap.size (.slice A 5 c) L ∧ Below w.heap.size w w' := by
  obtain ⟨v, rfl, hown, hB⟩ := hs
  obtain ⟨A, c, e, h2⟩ := hown.form
  subst e
  rw [hL] at hown ⊢
  exact ⟨A, c, rfl, hown, hB⟩
/-- the rows of the helpers' table -/
theorem sig_2 (w : World) : Calls Try.prog 12 #[.int .i64 2] w (SigIs w [3, 2, 4, 0, 0] 0 0 false false) :=
  sig_row 2 (by decide) (by decide) _ 3 2 4 0 0 0 0 false false rfl _ _ rfl (.inl ⟨rfl, rfl, rfl, rfl⟩) w

theorem sum_lit (w W : World) (hB : Below w.heap.size w W) (L : List Int) (n : Nat) (seed r : Int) (hL : L.length = n) (hn : n ≤ 64) (hr : (decide (∀ x ∈ L, 0 ≤ x ∧ x < 256) && decide (sumW L (seed % 65536) = r)) = true) :
    Calls Try.prog 21 #[.slice (some ⟨W.heap.size, 0, none⟩) n n, .int .i64 seed] (W.alloc (.cells (L.map (Value.int .u8)).toArray 5)) fun e w' => e = .returned (.int .i64 r) ∧ Below w.heap.size w w' := by
  simp only [Bool.and_eq_true, decide_eq_true_eq] at hr
  refine (sum_any _ _ n n L seed hL (Nat.le_refl _) (by unfold maxLen; omega) hr.1 (ByteBlk.new W L).at_).mono ?_
  rintro e w' ⟨rfl, q, rfl⟩
  exact ⟨by rw [hr.2], below_drewN (hB.alloc hB.size _) q⟩
theorem diff_lit (w W : World) (hB : Below w.heap.size w W) :
    Calls Try.prog 22 #[.slice (some ⟨W.heap.size, 0, none⟩) 1 1, .slice (some ⟨W.heap.size + 1, 0, none⟩) 2 2] ((W.alloc (.cells #[.int .u8 1] 5)).alloc (.cells #[.int .u8 1, .int .u8 0] 5)) fun e w' => e = .returned (.int .i64 (-1)) ∧ Below w.heap.size w w' := by
  have h1 : ByteBlk ((W.alloc (.cells #[.int .u8 1] 5)).alloc (.cells #[.int .u8 1, .int .u8 0] 5)) W.heap.size [1] := Blk.alloc (Blk.new W _ _) _
  have h2 : ByteBlk ((W.alloc (.cells #[.int .u8 1] 5)).alloc (.cells #[.int .u8 1, .int .u8 0] 5)) (W.heap.size + 1) [1, 0] := blk_new2 W _ _ _
  refine (diff_any _ _ _ 1 2 1 2 [1] [1, 0] rfl rfl h1.at_ h2.at_ (by intro x hx; simp at hx; omega) (by intro x hx; simp at hx; omega)).mono ?_
  rintro e w' ⟨rfl, rfl⟩
  exact ⟨by rw [show diffV [1] [1, 0] = -1 by decide +kernel], (hB.alloc hB.size _).alloc (by simp; have := hB.size; omega) _⟩
theorem find_lit (w W : World) (hB : Below w.heap.size w W) :
    Calls Try.prog 23 #[.slice (some ⟨W.heap.size, 0, none⟩) 3 3, .int .i64 261] (W.alloc (.cells #[.int .u8 5, .int .u8 6, .int .u8 5] 5)) fun e w' => e = .returned (.int .i64 0) ∧ Below w.heap.size w w' := by
  refine (find_any _ _ 3 3 [5, 6, 5] 261 rfl (ByteBlk.new W [5, 6, 5]).at_ (by intro x hx; simp at hx; omega)).mono ?_
  rintro e w' ⟨rfl, rfl⟩
  exact ⟨by rw [show findV [5, 6, 5] (261 % 256) = 0 by decide +kernel], hB.alloc hB.size _⟩

set_option maxRecDepth 100000 in
set_option maxHeartbeats 1600000 in
theorem known_any (w : World) : Calls Try.prog 10 #[] w fun e w' => e = .returned (.bool true) ∧ Below w.heap.size w w' := by
  have h2 := Lib.hid (fun w => sig_2 w)
  have h0 := Lib.hid (fun w => sig_no 0 (.inl (by decide)) w)
  have hnot := runNot
  go_enter Try.func10, Try.ntmps10
  go_upto_region 1 with (fail)
  go_upto_region 2 with (go_at_call 12; refine (h2.out _).mono ?_; rintro e w1 hs; obtain ⟨A, c, rfl, hown, hB1⟩ := hs.five rfl; clear hs)
  have hr1 : Blk (w1.alloc (.cells #[.slice A 5 c, .int .i64 0, .int .i64 0, .bool false, .bool false] 40)) w1.heap.size 40 #[.slice A 5 c, .int .i64 0, .int .i64 0, .bool false, .bool false] := Blk.new _ _ _
  have hat1 : IntsAt (w1.alloc (.cells #[.slice A 5 c, .int .i64 0, .int .i64 0, .bool false, .bool false] 40)) A [3, 2, 4, 0, 0] := ownI_ints (World.ownsRow.alloc hown _)
  have hBW : Below w.heap.size w (w1.alloc (.cells #[.slice A 5 c, .int .i64 0, .int .i64 0, .bool false, .bool false] 40)) := hB1.alloc (by have := hB1.size; omega) _
  have hsz := hB1.size
  clear hown hB1 h2
  generalize w1.alloc (.cells #[.slice A 5 c, .int .i64 0, .int .i64 0, .bool false, .bool false] 40) = W1 at *
  generalize w1.heap.size = r1 at *
  go_upto_region 3 with (go_at_call 12; refine (h0.out _).mono ?_; rintro e w2 ⟨rfl, hB2⟩)
  have hr2 : Blk (w2.alloc (.cells #[.slice none 0 0, .int .i64 0, .int .i64 0, .bool false, .bool false] 40)) r1 40 #[.slice A 5 c, .int .i64 0, .int .i64 0, .bool false, .bool false] := (hr1.below hB2 hr1.lt).alloc _
  have hat2 : IntsAt (w2.alloc (.cells #[.slice none 0 0, .int .i64 0, .int .i64 0, .bool false, .bool false] 40)) A [3, 2, 4, 0, 0] := intsAt_below hat1 (hB2.alloc hB2.size _)
  have hBX : Below w.heap.size w (w2.alloc (.cells #[.slice none 0 0, .int .i64 0, .int .i64 0, .bool false, .bool false] 40)) := (hBW.trans (hB2.mono hBW.size)).alloc (by have := hBW.size; have := hB2.size; omega) _
  clear hr1 hat1 hBW hB2 h0
  generalize w2.alloc (.cells #[.slice none 0 0, .int .i64 0, .int .i64 0, .bool false, .bool false] 40) = W2 at *
  have hq : ∀ w, (binOp .neq 38 (.agg #[.int .i64 0, .int .i64 0, .bool false, .bool false]) (.agg #[.int .i64 0, .int .i64 0, .bool false, .bool false])).run Try.prog w = .ok (.bool false) w := fun _ => by kernel_rfl
  have c0 : W2.cell? ⟨r1, 0, none⟩ = some (.slice A 5 c) := hr2.cell 0
  have hb3 : IntBlk (W2.alloc (.cells #[.int .i64 3, .int .i64 2, .int .i64 4, .int .i64 0, .int .i64 0] 3)) W2.heap.size [3, 2, 4, 0, 0] := IntBlk.new W2 [3, 2, 4, 0, 0]
  have hat3 : IntsAt (W2.alloc (.cells #[.int .i64 3, .int .i64 2, .int .i64 4, .int .i64 0, .int .i64 0] 3)) A [3, 2, 4, 0, 0] := intsAt_below hat2 ((Below.refl _ _).alloc (Nat.le_refl _) _)
  have hsame := Lib.hid (sameInts_any _ A (some ⟨W2.heap.size, 0, none⟩) 5 5 c 5 [3, 2, 4, 0, 0] [3, 2, 4, 0, 0] rfl rfl (by decide) (by decide) hat3 hb3.at_)
  have hBY : Below w.heap.size w (W2.alloc (.cells #[.int .i64 3, .int .i64 2, .int .i64 4, .int .i64 0, .int .i64 0] 3)) := hBX.alloc hBX.size _
  have HR3 := Lib.hid (show ∀ q i, ((W2.alloc (.cells #[.int .i64 3, .int .i64 2, .int .i64 4, .int .i64 0, .int .i64 0] 3)).drewN q).cell? ⟨r1, i, none⟩ = (#[.slice A 5 c, .int .i64 0, .int .i64 0, .bool false, .bool false] : Array Value)[i]? from fun q i => ((hr2.alloc _).drewN q).cell i)
  rw [show decide (([3, 2, 4, 0, 0] : List Int) = [3, 2, 4, 0, 0]) = true from rfl] at hsame
  clear hr2 hat2 hat3 hb3
  go_upto_region 5 with (go_at_call 13; refine hsame.out.mono ?_; rintro e w3 ⟨rfl, q, rfl⟩; have d0 := HR3.out q 1; have d1 := HR3.out q 2; have d2 := HR3.out q 3; have d3 := HR3.out q 4; simp only [List.getElem?_toArray, List.getElem?_cons_zero, List.getElem?_cons_succ] at d0 d1 d2 d3)
  clear d0 d1 d2 d3 c0 hsame HR3 hq hnot hBX
  have hB3 : Below w.heap.size w ((W2.alloc (.cells #[.int .i64 3, .int .i64 2, .int .i64 4, .int .i64 0, .int .i64 0] 3)).drewN q) := below_drewN hBY q
  clear hBY
  generalize (W2.alloc (.cells #[.int .i64 3, .int .i64 2, .int .i64 4, .int .i64 0, .int .i64 0] 3)).drewN q = W3 at *
  have h1 := sum_lit w W3 hB3 [1, 2] 2 0 258 rfl (by decide) (by decide +kernel)
  go_wp2_with fail
  refine h1.mono ?_
  rintro e W4 ⟨rfl, hB4⟩
  clear h1 hB3
  have h1 := sum_lit w W4 hB4 [255, 255, 0, 1] 4 0 1 rfl (by decide) (by decide +kernel)
  go_wp2_with fail
  refine h1.mono ?_
  rintro e W5 ⟨rfl, hB5⟩
  clear h1 hB4
  have h1 := sum_any W5 none 0 0 [] (-1) rfl (Nat.le_refl _) (by decide) (fun x hx => by cases hx) (fun h => by cases h)
  rw [show sumW [] ((-1 : Int) % 65536) = 65535 by decide +kernel] at h1
  go_wp2_with fail
  refine h1.mono ?_
  rintro e W6 ⟨rfl, q6, rfl⟩
  have hB6 := below_drewN hB5 q6
  clear h1 hB5
  generalize W5.drewN q6 = W6 at *
  have h1 := diff_lit w W6 hB6
  go_wp2_with fail
  refine h1.mono ?_
  rintro e W7 ⟨rfl, hB7⟩
  clear h1 hB6
  have h1 := find_lit w W7 hB7
  go_wp2_with fail
  refine h1.mono ?_
  rintro e W8 ⟨rfl, hB8⟩
  clear h1 hB7
  have h1 := mix_any 0 0 W8
  rw [show mixV 0 0 = 0 by decide +kernel] at h1
  go_wp2_with fail
  refine h1.mono ?_
  rintro e W9 ⟨rfl, rfl⟩
  go_wp2_with fail
  go_ret
  exact ⟨rfl, hB8⟩
end Go.Proofs.Ytjjoblomfjfgfaa
