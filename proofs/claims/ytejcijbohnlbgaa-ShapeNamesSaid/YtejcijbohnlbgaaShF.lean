/- Package shape: From of a claim that is not dead. -/
import Derived.Test.YtejcijbohnlbgaaShS
namespace Go.Proofs.Ytejcijbohnlbgaa
open Go.ChangeShapes Go.WideShapes Go.ChangeAt Go.RowKit
open Zon
set_option linter.unusedVariables false
set_option linter.unusedSimpArgs false
set_option maxRecDepth 100000
/-- a claim's cells: dead, the tags, its bounds -/
def clF (dead : Bool) (T : Nat → Int) (V : Value) : Nat → Value := fun k => if k = 0 then .bool dead else if k < 127 then .int .i64 (T (k - 1)) else V
theorem sizeRegs : (Try.prog.info? 59).map (·.size) = some 30 := by kernel_rfl
theorem sizeStack : (Try.prog.info? 60).map (·.size) = some 96 := by kernel_rfl
theorem cl_regs (d : Bool) (T : Nat → Int) (V : Value) : (arr 30 fun q => clF d T V (1 + q)) = arr 30 (tgF T) := arr_congr fun k hk => by
  unfold clF tgF
  rw [if_neg (by omega), if_pos (by omega), show 1 + k - 1 = k by omega]
theorem cl_stack (d : Bool) (T : Nat → Int) (V : Value) : (arr 96 fun q => clF d T V (31 + q)) = arr 96 (tgF fun k => T (k + 30)) := arr_congr fun k hk => by
  unfold clF tgF
  rw [if_neg (by omega), if_pos (by omega), show 31 + k - 1 = k + 30 by omega]
theorem cl_join (T : Nat → Int) : joinT2 T (fun k => T (k + 30)) = T := funext fun k => by
  unfold joinT2
  by_cases e : k < 30
  · rw [if_pos e]
  · rw [if_neg e]
    show T (k - 30 + 30) = T k
    rw [show k - 30 + 30 = k by omega]
/-- what is wrong with the first bound that is wrong -/
def fromW (T : Nat → Int) : List Con → Int
  | [] => 0
  | x :: L => if shWrong T x = 0 then fromW T L else shWrong T x
theorem fromW_drop {T : Nat → Int} {L : List Con} {k : Nat} {x : Con} (h : L[k]? = some x) (hz : fromW T L = fromW T (L.drop k)) : (shWrong T x = 0 → fromW T L = fromW T (L.drop (k + 1))) ∧ (shWrong T x ≠ 0 → fromW T L = shWrong T x) := by
  have hd : L.drop k = x :: L.drop (k + 1) := by
    obtain ⟨hk, e⟩ := List.getElem?_eq_some_iff.1 h
    rw [List.drop_eq_getElem_cons hk, e]
  rw [hz, hd]
  exact ⟨fun e => if_pos e, fun e => if_neg e⟩
theorem zeroCon : (Try.prog.info? 45).bind (fun i => i.zero.map Value.cells) = some (arr 3 (fun _ => .int .i64 0)) := by kernel_rfl
theorem sizeCnF : (Try.prog.info? 45).map (·.size) = some 3 := by kernel_rfl
/-- the claim in its box, its tags in a block -/
structure SF (w : World) (b g : Nat) (T : Nat → Int) (A : Option Addr) (n c : Nat) (L : List Con) (W : World) : Prop where
  bl : Below w.heap.size w W
  sz : w.heap.size ≤ W.heap.size
  cl : FB W b 62 128 (clF false T (.slice A n c))
  tg : TgB W g T
  cn : ConsAt W A L
theorem SF.up {w W W' : World} {b g : Nat} {T : Nat → Int} {A : Option Addr} {n c : Nat} {L : List Con} (h : SF w b g T A n c L W) (hb : Below W.heap.size W W') : SF w b g T A n c L W' :=
  ⟨h.bl.trans (hb.mono h.sz), Nat.le_trans h.sz hb.size, h.cl.up hb, h.tg.up hb, h.cn.below hb⟩
theorem SF.touch {w W W' : World} {b g x : Nat} {T : Nat → Int} {A : Option Addr} {n c : Nat} {L : List Con} (h : SF w b g T A n c L W) (ht : Touch x W W') (hx : w.heap.size ≤ x) (h1 : b ≠ x) (h2 : g ≠ x) (h3 : Far A x) : SF w b g T A n c L W' :=
  ⟨h.bl.trans (ht.below hx h.sz), Nat.le_trans h.sz ht.size, h.cl.touch ht h1, FB.touch h.tg ht h2, h.cn.touch h3 ht⟩
theorem shWrong_zero {T : Nat → Int} {x : Con} (h : shWrong T x = 0) : wrong1 x = 0 := by
  unfold shWrong at h
  unfold wrong1
  cases h1 : varB x.i <;> cases h2 : varB x.j <;> simp [h1, h2] at h ⊢
  · cases h3 : rngB x.c
    · simp [h3] at h
      split at h
      · omega
      · split at h <;> omega
    · simp
theorem fromW_zero {T : Nat → Int} {L : List Con} (h : fromW T L = 0) : wrongL L = 0 := by
  refine wrongL_all ?_
  induction L with
  | nil => intro x hx; cases hx
  | cons y L ih =>
    have h' : (if shWrong T y = 0 then fromW T L else shWrong T y) = 0 := h
    by_cases e : shWrong T y = 0
    · rw [if_pos e] at h'
      intro x hx
      rcases List.mem_cons.1 hx with rfl | hx
      · exact shWrong_zero e
      · exact ih h' x hx
    · rw [if_neg e] at h'
      exact absurd h' e
set_option maxHeartbeats 4000000 in
theorem from_any (w : World) (T : Nat → Int) (A : Option Addr) (n c : Nat) (L : List Con) (hL : L.length = n) (hn : n ≤ 6000000000000) (h : ConsAt w A L) (hg : goodT T = true) :
    Calls Try.prog 26 #[.agg (arr 128 (clF false T (.slice A n c)))] w fun e w' =>
      (fromW T L ≠ 0 ∧ e = .returned (.tuple #[.pointer none, .int .i64 (fromW T L)]) ∧ Below w.heap.size w w') ∨
      (fromW T L = 0 ∧ withZ (some topT) L = none ∧ e = .returned (.tuple #[.pointer none, .int .i64 92]) ∧ Below w.heap.size w w') ∨
      (fromW T L = 0 ∧ withZ (some topT) L ≠ none ∧ ∃ g, e = .returned (.tuple #[.pointer (some ⟨g, 0, none⟩), .int .i64 0]) ∧ w.heap.size ≤ g ∧ ShAt w' g (withZ (some topT) L) T ∧ Below w.heap.size w w') := by
  have HL := Lib.hid hL
  have HA := Lib.hid h
  have HG := Lib.hid hg
  obtain ⟨CF, hCF⟩ : ∃ f, f = clF false T (.slice A n c) := ⟨_, rfl⟩
  have HCF := Lib.hid hCF
  have x00 : CF 0 = .bool false := by rw [hCF]; rfl
  have x127 : CF 127 = .slice A n c := by rw [hCF]; rfl
  have HR := Lib.hid (show (arr 30 fun q => CF (1 + q)) = arr 30 (tgF T) by rw [hCF]; exact cl_regs _ _ _)
  have HK := Lib.hid (show (arr 96 fun q => CF (31 + q)) = arr 96 (tgF fun k => T (k + 30)) by rw [hCF]; exact cl_stack _ _ _)
  have HTO := Lib.hid (fun W => show Calls Try.prog 63 #[.agg (arr 30 fun q => CF (1 + q)), .agg (arr 96 fun q => CF (31 + q))] W (RetV W (.agg (arr 126 (tgF T)))) by rw [HR.out, HK.out]; have := together_any W T (fun k => T (k + 30)); rw [cl_join] at this; exact this)
  rw [← hCF]
  have X00 := Lib.hid x00
  have X127 := Lib.hid x127
  clear hL h hg hCF HR HK x00 x127
  go_enter Try.func26, Try.ntmps26
  go_upto_region 1 with (refine wpList_box_seg rfl 62 (.tmp 0) rfl 128 CF rfl ?_; intro w1 hF1 hB1 hs1)
  obtain ⟨b, hb⟩ : ∃ b, b = w.heap.size := ⟨_, rfl⟩
  rw [← hb] at hF1 ⊢
  have HF1 := Lib.hid hF1
  have HB1 := Lib.hid hB1
  clear hF1 hB1 hs1 hb
  go_wp2_with (first
    | (refine wpList_load_seg rfl 59 _ rfl b 1 rfl 62 128 30 CF _ HF1.out (by omega) Try.underlying59 rfl sizeRegs ?_)
    | (refine wpList_load_seg rfl 60 _ rfl b 31 rfl 62 128 96 CF _ HF1.out (by omega) Try.underlying60 rfl sizeStack ?_))
  go_at_call 63
  refine (HTO.out _).mono ?_
  rintro e w2 ⟨rfl, hB⟩
  have HF2 := Lib.hid (HF1.out.up hB)
  have HB2 := Lib.hid (HB1.out.trans (hB.mono HB1.out.size))
  obtain ⟨J, hJ⟩ : ∃ J, J = tgF T := ⟨_, rfl⟩
  rw [← hJ]
  have HJ := Lib.hid hJ
  have HJ1 := Lib.hid (show ∀ q, q < 126 → (J q).oneCell' = true by rw [hJ]; exact tgF_one _ _)
  clear hB hJ HF1 HB1 HTO
  go_upto_region 2 with (first
    | (refine wpList_alloc_seg rfl 80 rfl 126 (tgF fun _ => 0) zeroTags ?_; intro w3 hF3 hB3 hs3)
    | (refine wpList_store_all rfl 80 _ _ rfl w2.heap.size 80 126 _ J rfl rfl hF3 sizeTags HJ1.out ?_; intro w4 hF4 hT4 hs4))
  obtain ⟨g, hg⟩ : ∃ g, g = w2.heap.size := ⟨_, rfl⟩
  have q1 : SF w b g T A n c L w4 := by
    have t1 : w.heap.size ≤ w2.heap.size := HB2.out.size
    have t2 : Below w.heap.size w w4 := (HB2.out.trans (hB3.mono t1)).trans (hT4.below t1 (by omega))
    refine ⟨t2, by have := t2.size; exact this, ?_, ?_, HA.out.below t2⟩
    · rw [← HCF.out]
      exact (HF2.out.up hB3).touch hT4 (Nat.ne_of_lt HF2.out.lt)
    · unfold TgB
      rw [hg, ← HJ.out]
      exact hF4
  rw [← hg]
  have HS4 := Lib.hid q1
  have HGW := Lib.hid (show w.heap.size ≤ g by have := HB2.out.size; omega)
  clear q1 hF3 hB3 hs3 hF4 hT4 hs4 hg HF2 HB2 HJ1 HJ
  have y0 : w4.cell? ⟨b, 0, none⟩ = some (.bool false) := HS4.out.cl.cell 0 (by decide)
  go_wp2_with fail
  go_at_call 64
  refine (good_any _ g T HS4.out.tg).mono ?_
  rintro e w5 ⟨rfl, hB⟩
  rw [HG.out]
  have HS5 := Lib.hid (HS4.out.up hB)
  clear hB HS4 y0
  have y127 : w5.cell? ⟨b, 127, none⟩ = some (.slice A n c) := HS5.out.cl.cell 127 (by decide)
  go_wp2_with fail
  go_loopw [32] (fun i wr => ∃ k : Nat, k ≤ n ∧ i = .int .i64 k ∧ fromW T L = fromW T (L.drop k) ∧ SF w b g T A n c L wr) (fun i _ => (n - intOf i).toNat)
  case atStart => exact ⟨0, Nat.zero_le _, rfl, rfl, HS5.out⟩
  case round =>
    clear HS5 y127
    obtain ⟨k, hk, rfl, hw, hS⟩ := hrel
    have hk0 : (0 : Int) ≤ k := by omega
    by_cases hlt : k < n
    · have hlt' : (k : Int) < n := by omega
      obtain ⟨ab, off, rfl, hbl, -⟩ := HA.out (by have := HL.out; omega)
      obtain ⟨x, hx, -, x0, x1, x2⟩ := hS.cn.get (k := k) (by have := HL.out; omega)
      obtain ⟨hw1, hw2⟩ := fromW_drop hx hw
      have HW1 := Lib.hid hw1
      have HW2 := Lib.hid hw2
      have HS := Lib.hid hS
      have HKT := Lib.hid hlt
      have HBL := Lib.hid hbl
      clear hx hw hw1 hw2 hS hbl hlt
      obtain ⟨xi, xj, xc⟩ := x
      simp only at x0 x1 x2
      go_upto_region 11 with (first
        | (refine wpList_alloc_seg rfl 45 rfl 3 _ zeroCon ?_; intro w6 hF6 hB6 hs6)
        | (refine wpList_store_all rfl 45 _ _ rfl wr.heap.size 45 3 _ (fun q => if q = 0 then .int .i64 xi else if q = 1 then .int .i64 xj else .int .i64 xc) rfl (congrArg Value.agg (three_arrT _ _ _)) hF6 sizeCnF (fun q _ => by show (if q = 0 then Value.int .i64 xi else if q = 1 then .int .i64 xj else .int .i64 xc).oneCell' = true; split; rfl; split <;> rfl) ?_; intro w7 hF7 hT7 hs7))
      obtain ⟨bx, hbx⟩ : ∃ q, q = wr.heap.size := ⟨_, rfl⟩
      rw [← hbx] at hF7 hT7 ⊢
      have HS7 := Lib.hid ((HS.out.up hB6).touch hT7 (by have := HS.out.sz; omega) (by have := HS.out.cl.lt; omega) (by have := FB.lt HS.out.tg; omega) (fun b' off' e => by injection e with e; injection e with e1; have := HBL.out; have := HS.out.sz; omega))
      have x0 := hF7.cell 0 (by decide)
      have x1 := hF7.cell 1 (by decide)
      have x2 := hF7.cell 2 (by decide)
      change _ = some (Value.int .i64 xi) at x0
      change _ = some (Value.int .i64 xj) at x1
      change _ = some (Value.int .i64 xc) at x2
      clear hF7 hT7 hs7 hF6 hB6 hs6 hbx HS
      go_wp2_with fail
      go_at_call 65
      refine (shWrong_any _ g T xi xj xc HS7.out.tg).mono ?_
      rintro e w8 ⟨rfl, hB⟩
      have HS8 := Lib.hid (HS7.out.up hB)
      clear hB HS7 x0 x1 x2
      by_cases e0 : shWrong T ⟨xi, xj, xc⟩ = 0
      · have HN := Lib.hid (HW1.out e0)
        rw [e0]
        clear e0 HW1 HW2
        go_wp2_with fail
        go_roundw
        case rel => exact ⟨k + 1, by have := HKT.out; omega, by go_num, HN.out, HS8.out⟩
        case measure => simp [intOf]; omega
      · have HN := Lib.hid (HW2.out e0)
        obtain ⟨E, hE⟩ : ∃ E, E = shWrong T ⟨xi, xj, xc⟩ := ⟨_, rfl⟩
        rw [← hE] at e0 HN ⊢
        clear hE HW1 HW2
        have d0 : decide (E = 0) = false := decide_eq_false e0
        go_wp2_with fail
        go_ret2
        exact .inl ⟨by rw [HN.out]; exact e0, by rw [HN.out]; rfl, HS8.out.bl⟩
    · have hjn : decide ((k : Int) < n) = false := decide_eq_false (by omega)
      have hjn2 : decide (k < n) = false := decide_eq_false hlt
      have HFW := Lib.hid (show fromW T L = 0 by rw [hw, List.drop_of_length_le (by rw [HL.out]; omega)]; rfl)
      have HWL := Lib.hid (fromW_zero HFW.out)
      have HSe := Lib.hid hS
      clear hw hS
      go_upto_region 15 with (fail)
      refine wp_region_held_drew (S := fun W => SF w b g T A n c L W) (by kernel_rfl) (HSe.out.up (below_drewN' (Below.refl _ _) 1)) (fun hHeld => ?_)
      have HSd := Lib.hid (show SF w b g T A n c L wr.drew from HSe.out.up (below_drewN' (Below.refl _ _) 1))
      clear HSe
      refine wpAnyH_take (i := 1) (oi := _) (v := .pointer (some ⟨b, 127, none⟩)) rfl (by kernel_rfl) (by kernel_rfl) (by kernel_rfl) (fun _ _ _ h => h) (Or.inl ⟨by rfl, ?_⟩) (by assumption) ?_
      · intro w hSw
        go_simp
      try simp only [Act.put, List.setIfInBounds_toArray, List.set_cons_zero, List.set_cons_succ]
      refine wpAnyH_take (i := 2) (oi := _) (v := .slice A n c) rfl (by kernel_rfl) (by kernel_rfl) (by kernel_rfl) (fun _ _ _ h => h) (Or.inl ⟨by rfl, ?_⟩) (by assumption) ?_
      · intro w hSw
        have x127 : w.cell? ⟨b, 127, none⟩ = some (.slice A n c) := hSw.cl.cell 127 (by decide)
        go_simp
      try simp only [Act.put, List.setIfInBounds_toArray, List.set_cons_zero, List.set_cons_succ]
      clear hHeld
      refine wpAnyH_ready (rs := [0]) (by kernel_rfl) (by simp) ?_
      refine AllReadyH.cons rfl (fun K hK => ?_) AllReadyH.nil
      go_simp
      go_at_call 8
      refine (New_law _).mono ?_
      rintro e y1 ⟨g0, rfl, -, hz, hB⟩
      have HZ1 := Lib.hid hz
      have HS1 := Lib.hid (HSd.out.up hB)
      clear hz hB HSd
      refine hK.out _ _ HS1.out (fun hHeld => ?_)
      clear hK K
      try simp only [Act.put, List.setIfInBounds_toArray, List.set_cons_zero, List.set_cons_succ]
      clear hHeld
      refine wpAnyH_ready (rs := [3]) (by kernel_rfl) (by simp) ?_
      refine AllReadyH.cons rfl (fun K hK => ?_) AllReadyH.nil
      go_simp
      go_at_call 9
      refine (With_law _ g0 (some topT) A n c L HZ1.out HL.out (by omega) HS1.out.cn HWL.out).mono ?_
      rintro e y2 ⟨g3, rfl, hz, hB⟩
      have HZ2 := Lib.hid hz
      have HS2 := Lib.hid (HS1.out.up hB)
      clear hz hB HZ1 HS1
      refine hK.out _ _ HS2.out (fun hHeld => ?_)
      clear hK K
      try simp only [Act.put, List.setIfInBounds_toArray, List.set_cons_zero, List.set_cons_succ]
      refine wpAnyH_take (i := 4) (oi := _) (v := .tuple #[.pointer (some ⟨g3, 0, none⟩), .int .i64 0]) rfl (by kernel_rfl) (by kernel_rfl) (by kernel_rfl) (fun _ _ _ h => h) (Or.inl ⟨by rfl, ?_⟩) (by assumption) ?_
      · intro w hSw
        go_simp
      try simp only [Act.put, List.setIfInBounds_toArray, List.set_cons_zero, List.set_cons_succ]
      refine wpAnyH_take (i := 5) (oi := _) (v := .pointer (some ⟨g3, 0, none⟩)) rfl (by kernel_rfl) (by kernel_rfl) (by kernel_rfl) (fun _ _ _ h => h) (Or.inl ⟨by rfl, ?_⟩) (by assumption) ?_
      · intro w hSw
        go_simp
      try simp only [Act.put, List.setIfInBounds_toArray, List.set_cons_zero, List.set_cons_succ]
      refine wpAnyH_take (i := 6) (oi := _) (v := .int .i64 0) rfl (by kernel_rfl) (by kernel_rfl) (by kernel_rfl) (fun _ _ _ h => h) (Or.inl ⟨by rfl, ?_⟩) (by assumption) ?_
      · intro w hSw
        go_simp
      try simp only [Act.put, List.setIfInBounds_toArray, List.set_cons_zero, List.set_cons_succ]
      refine wpAnyH_take (i := 7) (oi := _) (v := .pointer (some ⟨g3, 0, none⟩)) rfl (by kernel_rfl) (by kernel_rfl) (by kernel_rfl) (fun _ _ _ h => h) (Or.inl ⟨by rfl, ?_⟩) (by assumption) ?_
      · intro w hSw
        go_simp
      try simp only [Act.put, List.setIfInBounds_toArray, List.set_cons_zero, List.set_cons_succ]
      refine wpAnyH_take (i := 8) (oi := _) (v := .int .i64 0) rfl (by kernel_rfl) (by kernel_rfl) (by kernel_rfl) (fun _ _ _ h => h) (Or.inl ⟨by rfl, ?_⟩) (by assumption) ?_
      · intro w hSw
        go_simp
      try simp only [Act.put, List.setIfInBounds_toArray, List.set_cons_zero, List.set_cons_succ]
      refine wpAnyH_done (by kernel_rfl) ?_ _
      clear hHeld
      obtain ⟨z, hz⟩ : ∃ z, z = withZ (some topT) L := ⟨_, rfl⟩
      rw [← hz] at HZ2
      have HZE := Lib.hid hz
      clear hz
      go_wp2_with fail
      go_at_call 62
      refine (Empty_any _ g3 z HZ2.out).mono ?_
      rintro e y3 ⟨rfl, rfl⟩
      cases z with
      | none =>
        have ev : voidB none = true := rfl
        rw [ev]
        go_wp2_with fail
        go_ret2
        exact .inr (.inl ⟨HFW.out, HZE.out.symm, rfl, HS2.out.bl⟩)
      | some M =>
        have ev : voidB (some M) = false := rfl
        rw [ev]
        have hsz : (arr 126 (tgF T)).size = 126 := arr_size _ _
        have HTG := Lib.hid (show FB y2 g 80 126 (tgF T) from HS2.out.tg)
        go_wp2_with (refine wpList_load_all rfl 80 _ rfl g rfl 80 126 (tgF T) _ HTG.out Try.underlying80 rfl sizeTags ?_)
        try rw [arr_size]
        rw [shape_box]
        go_ret2
        exact .inr (.inr ⟨HFW.out, by rw [← HZE.out]; exact nofun, y2.heap.size, rfl, HS2.out.sz, by rw [← HZE.out]; exact ⟨g3, FB.new y2 _ 127 _, ZoneAt.up HZ2.out (below_box y2 _)⟩, HS2.out.bl.trans ((below_box y2 _).mono HS2.out.sz)⟩)
end Go.Proofs.Ytejcijbohnlbgaa
