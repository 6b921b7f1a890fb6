/- Package shape: Start. Written by mkshs.py. -/
import Derived.Test.YtejcijbohnlbgaaShE
import Derived.Test.YtejcijbohnlbgaaShM
import Derived.Test.YtejcijbohnlbgaaZAs
namespace Go.Proofs.Ytejcijbohnlbgaa
open Go.ChangeShapes Go.WideShapes Go.ChangeAt Go.RowKit
open Zon
set_option linter.unusedVariables false
set_option linter.unusedSimpArgs false
set_option maxRecDepth 100000
/-- the program in its box: its Lo and Hi -/
structure SP (w : World) (b : Nat) (lo hi : Int) (W : World) : Prop where
  bl : Below w.heap.size w W
  sz : w.heap.size ≤ W.heap.size
  lt : b < W.heap.size
  c0 : W.cell? ⟨b, 0, none⟩ = some (.int .i64 lo)
  c1 : W.cell? ⟨b, 1, none⟩ = some (.int .i64 hi)
theorem SP.up {w W W' : World} {b : Nat} {lo hi : Int} (h : SP w b lo hi W) (hb : Below W.heap.size W W') : SP w b lo hi W' :=
  ⟨h.bl.trans (hb.mono h.sz), Nat.le_trans h.sz hb.size, Nat.lt_of_lt_of_le h.lt hb.size, (hb.cell (p := ⟨b, 0, none⟩) h.lt).trans h.c0, (hb.cell (p := ⟨b, 1, none⟩) h.lt).trans h.c1⟩
theorem cons_two (w : World) (e : TypeId) (x y : Con) : ConsAt (w.alloc (.cells #[.int .i64 x.i, .int .i64 x.j, .int .i64 x.c, .int .i64 y.i, .int .i64 y.j, .int .i64 y.c] e)) (some ⟨w.heap.size, 0, none⟩) [x, y] := by
  refine consAt_cells (by simp) fun m v hm => ?_
  rw [Nat.zero_add, cell_of_row _ w.heap.size m _ e (0, 0) (heap_alloc_new w _)]
  simpa [Con.cells] using hm
set_option maxHeartbeats 4000000 in
theorem shape_box (p : Nat) (T : Nat → Int) : Array.foldl (fun cs x => cs.setIfInBounds (1 + x.snd) x.fst) (Try.zeroCells82.setIfInBounds 0 (.pointer (some ⟨p, 0, none⟩))) ((arr 126 (tgF T)).zipIdx) 0 126 = arr 127 (shF p T) := by kernel_rfl
def startT : Nat → Int := fun k => if k = 3 then 3 else if k = 6 then 1 else 0
theorem start_tags : (((((Try.zeroCells80.setIfInBounds 3 (.int .i64 3)).setIfInBounds 4 (.int .i64 0)).setIfInBounds 5 (.int .i64 0)).setIfInBounds 6 (.int .i64 1)).setIfInBounds 7 (.int .i64 0)).setIfInBounds 8 (.int .i64 0) = arr 126 (tgF startT) := by kernel_rfl
theorem start_zone (lo hi : Int) : assignZ (assignZ (withZ (some topT) [⟨0, 1, -lo⟩, ⟨1, 0, hi⟩]) 3 0 0) 4 1 0 = startZ lo hi := by
  unfold startZ
  cases withZ (some topT) [⟨0, 1, -lo⟩, ⟨1, 0, hi⟩] <;> rfl
set_option maxHeartbeats 4000000 in
theorem start_any (w : World) (lo hi : Int) (d t c : Value) (h0 : 0 ≤ lo) (h1 : lo ≤ hi) (h2 : hi ≤ 65535) :
    Calls Try.prog 28 #[.agg #[.int .i64 lo, .int .i64 hi, d, t, c]] w fun e w' => ∃ g, e = .returned (.tuple #[.pointer (some ⟨g, 0, none⟩), .int .i64 0]) ∧ w.heap.size ≤ g ∧ ShAt w' g (startZ lo hi) startT ∧ Below w.heap.size w w' := by
  obtain ⟨w1, hw1⟩ : ∃ w1, w1 = w.alloc (.cells #[.int .i64 lo, .int .i64 hi, d, t, c] 71) := ⟨_, rfl⟩
  have HP := Lib.hid (show SP w w.heap.size lo hi w1 by rw [hw1]; exact ⟨below_box w _, by simp, by simp, by simp [go_sem], by simp [go_sem]⟩)
  have HW1 := Lib.hid hw1
  clear hw1
  have HWR := Lib.hid (show wrongL [⟨0, 1, -lo⟩, ⟨1, 0, hi⟩] = 0 from wrongL_all fun x hx => by
    simp only [List.mem_cons, List.mem_nil_iff, or_false] at hx
    rcases hx with rfl | rfl
    · exact wrong1_ok ⟨by omega, by omega⟩ ⟨by omega, by omega⟩ ⟨by omega, by omega⟩
    · exact wrong1_ok ⟨by omega, by omega⟩ ⟨by omega, by omega⟩ ⟨by omega, by omega⟩)
  have f0 : decide (lo < 0) = false := decide_eq_false (by omega)
  have f1 : decide (65535 < hi) = false := decide_eq_false (by omega)
  have f2 : decide (hi < lo) = false := decide_eq_false (by omega)
  go_enter Try.func28, Try.ntmps28
  go_upto_region 1 with (fail)
  rw [← HW1.out]
  clear HW1
  obtain ⟨b, hb⟩ : ∃ b, b = w.heap.size := ⟨_, rfl⟩
  rw [← hb] at HP ⊢
  clear hb
  have x0 := HP.out.c0
  have x1 := HP.out.c1
  go_upto_region 3 with (fail)
  clear x0 x1
  refine wp_region_held_drew (S := fun W => SP w b lo hi W) (by kernel_rfl) (HP.out.up (below_drewN' (Below.refl _ _) 1)) (fun hHeld => ?_)
  refine wpAnyH_take (i := 1) (oi := _) (v := .pointer (some ⟨b, 0, none⟩)) rfl (by kernel_rfl) (by kernel_rfl) (by kernel_rfl) (fun _ _ _ h => h) (Or.inl ⟨by rfl, ?_⟩) (by assumption) ?_
  · intro w hSw
    go_simp
  try simp only [Act.put, List.setIfInBounds_toArray, List.set_cons_zero, List.set_cons_succ]
  refine wpAnyH_take (i := 2) (oi := _) (v := .int .i64 lo) rfl (by kernel_rfl) (by kernel_rfl) (by kernel_rfl) (fun _ _ _ h => h) (Or.inl ⟨by rfl, ?_⟩) (by assumption) ?_
  · intro w hSw
    have x0 := hSw.c0
    go_simp
  try simp only [Act.put, List.setIfInBounds_toArray, List.set_cons_zero, List.set_cons_succ]
  refine wpAnyH_take (i := 3) (oi := _) (v := .int .i64 (-lo)) rfl (by kernel_rfl) (by kernel_rfl) (by kernel_rfl) (fun _ _ _ h => h) (Or.inl ⟨by rfl, ?_⟩) (by assumption) ?_
  · intro w hSw
    go_simp
    exact IntWalk.i64_in _ (by omega)
  try simp only [Act.put, List.setIfInBounds_toArray, List.set_cons_zero, List.set_cons_succ]
  refine wpAnyH_take (i := 4) (oi := _) (v := .agg #[.int .i64 0, .int .i64 1, .int .i64 (-lo)]) rfl (by kernel_rfl) (by kernel_rfl) (by kernel_rfl) (fun _ _ _ h => h) (Or.inl ⟨by rfl, ?_⟩) (by assumption) ?_
  · intro w hSw
    go_simp
  try simp only [Act.put, List.setIfInBounds_toArray, List.set_cons_zero, List.set_cons_succ]
  refine wpAnyH_take (i := 5) (oi := _) (v := .pointer (some ⟨b, 1, none⟩)) rfl (by kernel_rfl) (by kernel_rfl) (by kernel_rfl) (fun _ _ _ h => h) (Or.inl ⟨by rfl, ?_⟩) (by assumption) ?_
  · intro w hSw
    go_simp
  try simp only [Act.put, List.setIfInBounds_toArray, List.set_cons_zero, List.set_cons_succ]
  refine wpAnyH_take (i := 6) (oi := _) (v := .int .i64 hi) rfl (by kernel_rfl) (by kernel_rfl) (by kernel_rfl) (fun _ _ _ h => h) (Or.inl ⟨by rfl, ?_⟩) (by assumption) ?_
  · intro w hSw
    have x1 := hSw.c1
    go_simp
  try simp only [Act.put, List.setIfInBounds_toArray, List.set_cons_zero, List.set_cons_succ]
  refine wpAnyH_take (i := 7) (oi := _) (v := .agg #[.int .i64 1, .int .i64 0, .int .i64 hi]) rfl (by kernel_rfl) (by kernel_rfl) (by kernel_rfl) (fun _ _ _ h => h) (Or.inl ⟨by rfl, ?_⟩) (by assumption) ?_
  · intro w hSw
    go_simp
  try simp only [Act.put, List.setIfInBounds_toArray, List.set_cons_zero, List.set_cons_succ]
  refine wpAnyH_ready (rs := [0, 8]) (by kernel_rfl) (by simp) ?_
  refine AllReadyH.cons rfl (fun K hK => ?_) (AllReadyH.cons rfl (fun K hK => ?_) AllReadyH.nil)
  · go_simp
    go_at_call 8
    refine (New_law _).mono ?_
    rintro e y1 ⟨g0, rfl, hg, hz, hB⟩
    have HZa := Lib.hid hz
    have HSa := Lib.hid (hHeld.up hB)
    clear hg hz hB
    refine hK.out _ _ HSa.out (fun hHeld => ?_)
    clear hK K
    try simp only [Act.put, List.setIfInBounds_toArray, List.set_cons_zero, List.set_cons_succ]
    refine wpAnyH_ready (rs := [8]) (by kernel_rfl) (by simp) ?_
    refine AllReadyH.cons rfl (fun K hK => ?_) AllReadyH.nil
    go_simp
    have HSb := Lib.hid (HSa.out.up (below_box y1 (.cells #[.int .i64 0, .int .i64 1, .int .i64 (-lo), .int .i64 1, .int .i64 0, .int .i64 hi] 45)))
    have HZb := Lib.hid (HZa.out.up (below_box y1 (.cells #[.int .i64 0, .int .i64 1, .int .i64 (-lo), .int .i64 1, .int .i64 0, .int .i64 hi] 45)))
    have HCb := Lib.hid (cons_two y1 45 ⟨0, 1, -lo⟩ ⟨1, 0, hi⟩)
    refine hK.out _ _ HSb.out (fun hHeld => ?_)
    clear hK K HSa HZa
    try simp only [Act.put, List.setIfInBounds_toArray, List.set_cons_zero, List.set_cons_succ]
    clear hHeld
    refine wpAnyH_ready (rs := [9]) (by kernel_rfl) (by simp) ?_
    refine AllReadyH.cons rfl (fun K hK => ?_) AllReadyH.nil
    go_simp
    go_at_call 9
    refine (With_law _ g0 (some topT) _ 2 _ [⟨0, 1, -lo⟩, ⟨1, 0, hi⟩] HZb.out rfl (by omega) HCb.out HWR.out).mono ?_
    rintro e y3 ⟨g3, rfl, hz, hB⟩
    have HZc := Lib.hid hz
    have HSc := Lib.hid (HSb.out.up hB)
    clear hz hB HZb HCb HSb
    refine hK.out _ _ HSc.out (fun hHeld => ?_)
    clear hK K
    try simp only [Act.put, List.setIfInBounds_toArray, List.set_cons_zero, List.set_cons_succ]
    refine wpAnyH_take (i := 10) (oi := _) (v := .tuple #[.pointer (some ⟨g3, 0, none⟩), .int .i64 0]) rfl (by kernel_rfl) (by kernel_rfl) (by kernel_rfl) (fun _ _ _ h => h) (Or.inl ⟨by rfl, ?_⟩) (by assumption) ?_
    · intro w hSw
      go_simp
    try simp only [Act.put, List.setIfInBounds_toArray, List.set_cons_zero, List.set_cons_succ]
    refine wpAnyH_take (i := 11) (oi := _) (v := .pointer (some ⟨g3, 0, none⟩)) rfl (by kernel_rfl) (by kernel_rfl) (by kernel_rfl) (fun _ _ _ h => h) (Or.inl ⟨by rfl, ?_⟩) (by assumption) ?_
    · intro w hSw
      go_simp
    try simp only [Act.put, List.setIfInBounds_toArray, List.set_cons_zero, List.set_cons_succ]
    refine wpAnyH_take (i := 12) (oi := _) (v := .int .i64 0) rfl (by kernel_rfl) (by kernel_rfl) (by kernel_rfl) (fun _ _ _ h => h) (Or.inl ⟨by rfl, ?_⟩) (by assumption) ?_
    · intro w hSw
      go_simp
    try simp only [Act.put, List.setIfInBounds_toArray, List.set_cons_zero, List.set_cons_succ]
    refine wpAnyH_take (i := 13) (oi := _) (v := .pointer (some ⟨g3, 0, none⟩)) rfl (by kernel_rfl) (by kernel_rfl) (by kernel_rfl) (fun _ _ _ h => h) (Or.inl ⟨by rfl, ?_⟩) (by assumption) ?_
    · intro w hSw
      go_simp
    try simp only [Act.put, List.setIfInBounds_toArray, List.set_cons_zero, List.set_cons_succ]
    refine wpAnyH_take (i := 14) (oi := _) (v := .int .i64 0) rfl (by kernel_rfl) (by kernel_rfl) (by kernel_rfl) (fun _ _ _ h => h) (Or.inl ⟨by rfl, ?_⟩) (by assumption) ?_
    · intro w hSw
      go_simp
    try simp only [Act.put, List.setIfInBounds_toArray, List.set_cons_zero, List.set_cons_succ]
    refine wpAnyH_done (by kernel_rfl) ?_ _
    clear hHeld
    go_wp2_with fail
    go_at_call 17
    refine (Assign_law _ g3 _ 3 0 0 HZc.out (by omega) (by omega) (by omega) (by decide)).mono ?_
    rintro e y4 ⟨g4, rfl, hz, hB⟩
    have HZd := Lib.hid hz
    have HSd := Lib.hid (HSc.out.up hB)
    clear hz hB HZc HSc
    go_wp2_with fail
    go_at_call 17
    refine (Assign_law _ g4 _ 4 1 0 HZd.out (by omega) (by omega) (by omega) (by decide)).mono ?_
    rintro e y5 ⟨g5, rfl, hz, hB⟩
    have HZe := Lib.hid hz
    have HSe := Lib.hid (HSd.out.up hB)
    clear hz hB HZd HSd
    go_wp2_with fail
    rw [start_tags, shape_box]
    rw [start_zone] at HZe
    go_ret2
    exact ⟨y5.heap.size, rfl, HSe.out.sz, ⟨g5, FB.new y5 _ 127 _, ZoneAt.up HZe.out (below_box y5 _)⟩, HSe.out.bl.trans ((below_box y5 _).mono HSe.out.sz)⟩
  · go_simp
    have HS0 := Lib.hid (show SP w b lo hi (w1.alloc (.cells #[.int .i64 0, .int .i64 1, .int .i64 (-lo), .int .i64 1, .int .i64 0, .int .i64 hi] 45)).drew from (HP.out.up (below_box w1 (.cells #[.int .i64 0, .int .i64 1, .int .i64 (-lo), .int .i64 1, .int .i64 0, .int .i64 hi] 45))).up (below_drewN' (Below.refl _ _) 1))
    have HC0 := Lib.hid (show ConsAt (w1.alloc (.cells #[.int .i64 0, .int .i64 1, .int .i64 (-lo), .int .i64 1, .int .i64 0, .int .i64 hi] 45)).drew (some ⟨w1.heap.size, 0, none⟩) [⟨0, 1, -lo⟩, ⟨1, 0, hi⟩] from (cons_two w1 45 ⟨0, 1, -lo⟩ ⟨1, 0, hi⟩).below (below_drewN' (Below.refl _ _) 1))
    refine hK.out _ _ HS0.out (fun hHeld => ?_)
    clear hK K
    try simp only [Act.put, List.setIfInBounds_toArray, List.set_cons_zero, List.set_cons_succ]
    refine wpAnyH_ready (rs := [0]) (by kernel_rfl) (by simp) ?_
    refine AllReadyH.cons rfl (fun K hK => ?_) AllReadyH.nil
    go_simp
    go_at_call 8
    refine (New_law _).mono ?_
    rintro e y1 ⟨g0, rfl, hg, hz, hB⟩
    have HZb := Lib.hid hz
    have HSb := Lib.hid (HS0.out.up hB)
    have HCb := Lib.hid (HC0.out.below hB)
    clear hg hz hB
    refine hK.out _ _ HSb.out (fun hHeld => ?_)
    clear hK K HS0 HC0
    try simp only [Act.put, List.setIfInBounds_toArray, List.set_cons_zero, List.set_cons_succ]
    clear hHeld
    refine wpAnyH_ready (rs := [9]) (by kernel_rfl) (by simp) ?_
    refine AllReadyH.cons rfl (fun K hK => ?_) AllReadyH.nil
    go_simp
    go_at_call 9
    refine (With_law _ g0 (some topT) _ 2 _ [⟨0, 1, -lo⟩, ⟨1, 0, hi⟩] HZb.out rfl (by omega) HCb.out HWR.out).mono ?_
    rintro e y3 ⟨g3, rfl, hz, hB⟩
    have HZc := Lib.hid hz
    have HSc := Lib.hid (HSb.out.up hB)
    clear hz hB HZb HCb HSb
    refine hK.out _ _ HSc.out (fun hHeld => ?_)
    clear hK K
    try simp only [Act.put, List.setIfInBounds_toArray, List.set_cons_zero, List.set_cons_succ]
    refine wpAnyH_take (i := 10) (oi := _) (v := .tuple #[.pointer (some ⟨g3, 0, none⟩), .int .i64 0]) rfl (by kernel_rfl) (by kernel_rfl) (by kernel_rfl) (fun _ _ _ h => h) (Or.inl ⟨by rfl, ?_⟩) (by assumption) ?_
    · intro w hSw
      go_simp
    try simp only [Act.put, List.setIfInBounds_toArray, List.set_cons_zero, List.set_cons_succ]
    refine wpAnyH_take (i := 11) (oi := _) (v := .pointer (some ⟨g3, 0, none⟩)) rfl (by kernel_rfl) (by kernel_rfl) (by kernel_rfl) (fun _ _ _ h => h) (Or.inl ⟨by rfl, ?_⟩) (by assumption) ?_
    · intro w hSw
      go_simp
    try simp only [Act.put, List.setIfInBounds_toArray, List.set_cons_zero, List.set_cons_succ]
    refine wpAnyH_take (i := 12) (oi := _) (v := .int .i64 0) rfl (by kernel_rfl) (by kernel_rfl) (by kernel_rfl) (fun _ _ _ h => h) (Or.inl ⟨by rfl, ?_⟩) (by assumption) ?_
    · intro w hSw
      go_simp
    try simp only [Act.put, List.setIfInBounds_toArray, List.set_cons_zero, List.set_cons_succ]
    refine wpAnyH_take (i := 13) (oi := _) (v := .pointer (some ⟨g3, 0, none⟩)) rfl (by kernel_rfl) (by kernel_rfl) (by kernel_rfl) (fun _ _ _ h => h) (Or.inl ⟨by rfl, ?_⟩) (by assumption) ?_
    · intro w hSw
      go_simp
    try simp only [Act.put, List.setIfInBounds_toArray, List.set_cons_zero, List.set_cons_succ]
    refine wpAnyH_take (i := 14) (oi := _) (v := .int .i64 0) rfl (by kernel_rfl) (by kernel_rfl) (by kernel_rfl) (fun _ _ _ h => h) (Or.inl ⟨by rfl, ?_⟩) (by assumption) ?_
    · intro w hSw
      go_simp
    try simp only [Act.put, List.setIfInBounds_toArray, List.set_cons_zero, List.set_cons_succ]
    refine wpAnyH_done (by kernel_rfl) ?_ _
    clear hHeld
    go_wp2_with fail
    go_at_call 17
    refine (Assign_law _ g3 _ 3 0 0 HZc.out (by omega) (by omega) (by omega) (by decide)).mono ?_
    rintro e y4 ⟨g4, rfl, hz, hB⟩
    have HZd := Lib.hid hz
    have HSd := Lib.hid (HSc.out.up hB)
    clear hz hB HZc HSc
    go_wp2_with fail
    go_at_call 17
    refine (Assign_law _ g4 _ 4 1 0 HZd.out (by omega) (by omega) (by omega) (by decide)).mono ?_
    rintro e y5 ⟨g5, rfl, hz, hB⟩
    have HZe := Lib.hid hz
    have HSe := Lib.hid (HSd.out.up hB)
    clear hz hB HZd HSd
    go_wp2_with fail
    rw [start_tags, shape_box]
    rw [start_zone] at HZe
    go_ret2
    exact ⟨y5.heap.size, rfl, HSe.out.sz, ⟨g5, FB.new y5 _ 127 _, ZoneAt.up HZe.out (below_box y5 _)⟩, HSe.out.bl.trans ((below_box y5 _).mono HSe.out.sz)⟩
end Go.Proofs.Ytejcijbohnlbgaa
