/- Package shape: Span. Written by mkshp.py. -/
import Derived.Test.YtejcijbohnlbgaaShE
namespace Go.Proofs.Ytejcijbohnlbgaa
open Go.ChangeShapes Go.WideShapes Go.ChangeAt Go.RowKit
open Zon
set_option linter.unusedVariables false
set_option linter.unusedSimpArgs false
set_option maxRecDepth 100000
theorem sizeBnd : (Try.prog.info? 77).map (·.size) = some 2 := by kernel_rfl
theorem sizeSpn : (Try.prog.info? 74).map (·.size) = some 4 := by kernel_rfl
theorem zeroBnd : (Try.prog.info? 77).bind (fun i => i.zero.map Value.cells) = some (arr 2 (fun k => if k = 0 then .bool false else .int .i64 0)) := by kernel_rfl
def spn0 : Nat → Value := fun k => if k < 2 then .int .i64 0 else .bool false
theorem zeroSpn : (Try.prog.info? 74).bind (fun i => i.zero.map Value.cells) = some (arr 4 spn0) := by kernel_rfl
def bn2 (a : Int) : Nat → Value := fun k => if k = 0 then .bool true else .int .i64 a
theorem bn2_arr (a : Int) : (#[.bool true, .int .i64 a] : Array Value) = arr 2 (bn2 a) := rfl
theorem bn2_one (a : Int) : ∀ q, q < 2 → (bn2 a q).oneCell' = true := fun q _ => by unfold bn2; split <;> rfl
/-- a shape and the place of the answer -/
structure SQ (w : World) (g p b4 : Nat) (M : Tab) (T : Nat → Int) (W : World) : Prop where
  sh : FB W g 82 127 (shF p T)
  zn : ZoneAt W p (some M)
  an : FB W b4 74 4 spn0
  bl : Below w.heap.size w W
  sz : w.heap.size ≤ W.heap.size
theorem SQ.up {w W W' : World} {g p b4 : Nat} {M : Tab} {T : Nat → Int} (h : SQ w g p b4 M T W) (hb : Below W.heap.size W W') : SQ w g p b4 M T W' :=
  ⟨h.sh.up hb, h.zn.up hb, h.an.up hb, h.bl.trans (hb.mono h.sz), Nat.le_trans h.sz hb.size⟩
theorem ZoneAt.touchS {w w' : World} {g k : Nat} {z : Zn} (h : ZoneAt w g z) (ht : Touch k w w') (hne : g ≠ k) : ZoneAt w' g z := by
  cases z with
  | none => exact ZB.touch h ht hne
  | some M => exact ⟨ZB.touch h.1 ht hne, h.2⟩
theorem SQ.touch {w W W' : World} {g p b4 x : Nat} {M : Tab} {T : Nat → Int} (h : SQ w g p b4 M T W) (ht : Touch x W W') (hx : w.heap.size ≤ x ∧ g ≠ x ∧ p ≠ x ∧ b4 ≠ x) : SQ w g p b4 M T W' :=
  ⟨h.sh.touch ht hx.2.1, h.zn.touchS ht hx.2.2.1, h.an.touch ht hx.2.2.2, h.bl.trans (ht.below hx.1 h.sz), Nat.le_trans h.sz ht.size⟩
theorem SQ.ne {w W : World} {g p b4 : Nat} {M : Tab} {T : Nat → Int} (h : SQ w g p b4 M T W) : w.heap.size ≤ W.heap.size ∧ g ≠ W.heap.size ∧ p ≠ W.heap.size ∧ b4 ≠ W.heap.size :=
  ⟨h.sz, Nat.ne_of_lt h.sh.lt, Nat.ne_of_lt h.zn.lt, Nat.ne_of_lt h.an.lt⟩
set_option maxHeartbeats 8000000 in
theorem shSpan_any (w : World) (g v : Nat) (M : Tab) (T : Nat → Int) (a c : Int) (hs : ShAt w g (some M) T) (hv : v < 60) (ha : bnd (M 0 v) = some a) (hc : bnd (M v 0) = some c) (hr : -4611686018427387904 ≤ a ∧ a ≤ 4611686018427387904) :
    Calls Try.prog 30 #[.pointer (some ⟨g, 0, none⟩), .int .i64 v] w (RetV w (.agg #[.int .i64 (-a), .int .i64 c, .bool false, .bool false])) := by
  have HV := Lib.hid hv
  have HL := Lib.hid (fun W p (h : ZoneAt W p (some M)) => show Calls Try.prog 31 #[.pointer (some ⟨p, 0, none⟩), .int .i64 0, .int .i64 v] W (Val (.agg #[.bool true, .int .i64 a]) W) by have := Bound_at W p 0 v M h (by omega) hv; rw [ha] at this; exact this)
  have HH := Lib.hid (fun W p (h : ZoneAt W p (some M)) => show Calls Try.prog 31 #[.pointer (some ⟨p, 0, none⟩), .int .i64 v, .int .i64 0] W (Val (.agg #[.bool true, .int .i64 c]) W) by have := Bound_at W p v 0 M h hv (by omega); rw [hc] at this; exact this)
  obtain ⟨p, s1, s2⟩ := hs
  have S1 := Lib.hid s1
  have S2 := Lib.hid s2
  have eN : IntKind.i64.wrap (-a) = -a := IntWalk.i64_in _ (by omega)
  clear s1 s2 ha hc hv
  go_enter Try.func30, Try.ntmps30
  go_upto_region 1 with (refine wpList_alloc_seg rfl 74 rfl 4 spn0 zeroSpn ?_; intro w1 h1 hB1 hs1)
  obtain ⟨b4, hb4⟩ : ∃ b, b = w.heap.size := ⟨_, rfl⟩
  rw [← hb4] at h1 ⊢
  have HB4 := Lib.hid (show w.heap.size ≤ b4 by omega)
  have HQ := Lib.hid (show SQ w g p b4 M T w1 from ⟨S1.out.up hB1, S2.out.up hB1, h1, hB1, hB1.size⟩)
  clear h1 hB1 hs1 hb4 S1 S2
  refine wp_region_held_drew (S := fun W => SQ w g p b4 M T W) (by kernel_rfl) (HQ.out.up (below_drewN' (Below.refl _ _) 1)) (fun hHeld => ?_)
  refine wpAnyH_take (i := 0) (oi := _) (v := .pointer (some ⟨g, 0, none⟩)) rfl (by kernel_rfl) (by kernel_rfl) (by kernel_rfl) (fun _ _ _ h => h) (Or.inl ⟨by rfl, ?_⟩) (by assumption) ?_
  · intro w hSw
    go_simp
  try simp only [Act.put, List.setIfInBounds_toArray, List.set_cons_zero, List.set_cons_succ]
  refine wpAnyH_take (i := 1) (oi := _) (v := .pointer (some ⟨g, 0, none⟩)) rfl (by kernel_rfl) (by kernel_rfl) (by kernel_rfl) (fun _ _ _ h => h) (Or.inl ⟨by rfl, ?_⟩) (by assumption) ?_
  · intro w hSw
    go_simp
  try simp only [Act.put, List.setIfInBounds_toArray, List.set_cons_zero, List.set_cons_succ]
  refine wpAnyH_take (i := 2) (oi := _) (v := .pointer (some ⟨g, 0, none⟩)) rfl (by kernel_rfl) (by kernel_rfl) (by kernel_rfl) (fun _ _ _ h => h) (Or.inl ⟨by rfl, ?_⟩) (by assumption) ?_
  · intro w hSw
    go_simp
  try simp only [Act.put, List.setIfInBounds_toArray, List.set_cons_zero, List.set_cons_succ]
  refine wpAnyH_take (i := 3) (oi := _) (v := .pointer (some ⟨p, 0, none⟩)) rfl (by kernel_rfl) (by kernel_rfl) (by kernel_rfl) (fun _ _ _ h => h) (Or.inl ⟨by rfl, ?_⟩) (by assumption) ?_
  · intro w hSw
    have x0 : w.cell? ⟨g, 0, none⟩ = some (.pointer (some ⟨p, 0, none⟩)) := hSw.sh.cell 0 (by decide)
    go_simp
  try simp only [Act.put, List.setIfInBounds_toArray, List.set_cons_zero, List.set_cons_succ]
  refine wpAnyH_take (i := 4) (oi := _) (v := .int .i64 v) rfl (by kernel_rfl) (by kernel_rfl) (by kernel_rfl) (fun _ _ _ h => h) (Or.inl ⟨by rfl, ?_⟩) (by assumption) ?_
  · intro w hSw
    go_simp
  try simp only [Act.put, List.setIfInBounds_toArray, List.set_cons_zero, List.set_cons_succ]
  refine wpAnyH_take (i := 6) (oi := _) (v := .pointer (some ⟨g, 0, none⟩)) rfl (by kernel_rfl) (by kernel_rfl) (by kernel_rfl) (fun _ _ _ h => h) (Or.inl ⟨by rfl, ?_⟩) (by assumption) ?_
  · intro w hSw
    go_simp
  try simp only [Act.put, List.setIfInBounds_toArray, List.set_cons_zero, List.set_cons_succ]
  refine wpAnyH_take (i := 7) (oi := _) (v := .pointer (some ⟨g, 0, none⟩)) rfl (by kernel_rfl) (by kernel_rfl) (by kernel_rfl) (fun _ _ _ h => h) (Or.inl ⟨by rfl, ?_⟩) (by assumption) ?_
  · intro w hSw
    go_simp
  try simp only [Act.put, List.setIfInBounds_toArray, List.set_cons_zero, List.set_cons_succ]
  refine wpAnyH_take (i := 8) (oi := _) (v := .pointer (some ⟨g, 0, none⟩)) rfl (by kernel_rfl) (by kernel_rfl) (by kernel_rfl) (fun _ _ _ h => h) (Or.inl ⟨by rfl, ?_⟩) (by assumption) ?_
  · intro w hSw
    go_simp
  try simp only [Act.put, List.setIfInBounds_toArray, List.set_cons_zero, List.set_cons_succ]
  refine wpAnyH_take (i := 9) (oi := _) (v := .pointer (some ⟨p, 0, none⟩)) rfl (by kernel_rfl) (by kernel_rfl) (by kernel_rfl) (fun _ _ _ h => h) (Or.inl ⟨by rfl, ?_⟩) (by assumption) ?_
  · intro w hSw
    have x0 : w.cell? ⟨g, 0, none⟩ = some (.pointer (some ⟨p, 0, none⟩)) := hSw.sh.cell 0 (by decide)
    go_simp
  try simp only [Act.put, List.setIfInBounds_toArray, List.set_cons_zero, List.set_cons_succ]
  refine wpAnyH_take (i := 10) (oi := _) (v := .int .i64 v) rfl (by kernel_rfl) (by kernel_rfl) (by kernel_rfl) (fun _ _ _ h => h) (Or.inl ⟨by rfl, ?_⟩) (by assumption) ?_
  · intro w hSw
    go_simp
  try simp only [Act.put, List.setIfInBounds_toArray, List.set_cons_zero, List.set_cons_succ]
  refine wpAnyH_ready (rs := [5, 12, 13]) (by kernel_rfl) (by simp) ?_
  refine AllReadyH.cons rfl (fun K hK => ?_) (AllReadyH.cons rfl (fun K hK => ?_) (AllReadyH.cons rfl (fun K hK => ?_) AllReadyH.nil))
  · go_simp
    go_at_call 31
    refine (HL.out _ p hHeld.zn).mono ?_
    rintro e y1 ⟨rfl, hB⟩
    have HS1 := Lib.hid (hHeld.up hB)
    clear hB
    refine hK.out _ _ HS1.out (fun hHeld => ?_)
    clear hK K
    try simp only [Act.put, List.setIfInBounds_toArray, List.set_cons_zero, List.set_cons_succ]
    refine wpAnyH_ready (rs := [11, 12, 13]) (by kernel_rfl) (by simp) ?_
    refine AllReadyH.cons rfl (fun K hK => ?_) (AllReadyH.cons rfl (fun K hK => ?_) (AllReadyH.cons rfl (fun K hK => ?_) AllReadyH.nil))
    · go_simp
      go_at_call 31
      refine (HH.out _ p hHeld.zn).mono ?_
      rintro e y2 ⟨rfl, hB⟩
      have HS2 := Lib.hid (hHeld.up hB)
      clear hB
      refine hK.out _ _ HS2.out (fun hHeld => ?_)
      clear hK K
      try simp only [Act.put, List.setIfInBounds_toArray, List.set_cons_zero, List.set_cons_succ]
      refine wpAnyH_ready (rs := [12, 13]) (by kernel_rfl) (by simp) ?_
      refine AllReadyH.cons rfl (fun K hK => ?_) (AllReadyH.cons rfl (fun K hK => ?_) AllReadyH.nil)
      · refine step_alloc_seg (by rfl) 77 rfl 2 _ zeroBnd ?_
        intro y3 h hB hs
        have Nl := Lib.hid hHeld.ne
        have HS3 := Lib.hid (hHeld.up hB)
        have Fl3 := Lib.hid h
        clear h hB hs
        refine hK.out _ _ HS3.out (fun hHeld => ?_)
        clear hK K
        try simp only [Act.put, List.setIfInBounds_toArray, List.set_cons_zero, List.set_cons_succ]
        refine wpAnyH_ready (rs := [13]) (by kernel_rfl) (by simp) ?_
        refine AllReadyH.cons rfl (fun K hK => ?_) AllReadyH.nil
        · refine step_alloc_seg (by rfl) 77 rfl 2 _ zeroBnd ?_
          intro y4 h hB hs
          have Nh := Lib.hid hHeld.ne
          have HS4 := Lib.hid (hHeld.up hB)
          have NE := Lib.hid (Nat.ne_of_lt Fl3.out.lt)
          have Fl4 := Lib.hid (Fl3.out.up hB)
          have Fh4 := Lib.hid h
          clear h hB hs
          refine hK.out _ _ HS4.out (fun hHeld => ?_)
          clear hK K
          try simp only [Act.put, List.setIfInBounds_toArray, List.set_cons_zero, List.set_cons_succ]
          refine wpAnyH_ready (rs := [14]) (by kernel_rfl) (by simp) ?_
          refine AllReadyH.cons rfl (fun K hK => ?_) AllReadyH.nil
          · refine step_store_seg (by rfl) 77 _ _ rfl _ 0 77 2 2 _ (bn2 a) rfl (congrArg Value.agg (bn2_arr a)) Fl4.out (by omega) sizeBnd (bn2_one a) ?_
            intro y5 h hT hs
            have HS5 := Lib.hid (hHeld.touch hT Nl.out)
            have Fh5 := Lib.hid (Fh4.out.touch hT (by first | exact NE.out | exact Ne.symm NE.out))
            have Fl5 := Lib.hid (h.congr (f' := bn2 a) fun q hq => by unfold updR; rw [if_pos (by omega), Nat.sub_zero])
            clear h hT hs
            refine hK.out _ _ HS5.out (fun hHeld => ?_)
            clear hK K
            try simp only [Act.put, List.setIfInBounds_toArray, List.set_cons_zero, List.set_cons_succ]
            refine wpAnyH_ready (rs := [15]) (by kernel_rfl) (by simp) ?_
            refine AllReadyH.cons rfl (fun K hK => ?_) AllReadyH.nil
            · refine step_store_seg (by rfl) 77 _ _ rfl _ 0 77 2 2 _ (bn2 c) rfl (congrArg Value.agg (bn2_arr c)) Fh5.out (by omega) sizeBnd (bn2_one c) ?_
              intro y6 h hT hs
              have HS6 := Lib.hid (hHeld.touch hT Nh.out)
              have Fl6 := Lib.hid (Fl5.out.touch hT (by first | exact NE.out | exact Ne.symm NE.out))
              have Fh6 := Lib.hid (h.congr (f' := bn2 c) fun q hq => by unfold updR; rw [if_pos (by omega), Nat.sub_zero])
              clear h hT hs
              refine hK.out _ _ HS6.out (fun hHeld => ?_)
              clear hK K
              try simp only [Act.put, List.setIfInBounds_toArray, List.set_cons_zero, List.set_cons_succ]
              refine wpAnyH_done (by kernel_rfl) ?_ _
              clear hHeld
              have x0 := Fl6.out.cell 0 (by decide)
              have x1 := Fl6.out.cell 1 (by decide)
              have z0 := Fh6.out.cell 0 (by decide)
              have z1 := Fh6.out.cell 1 (by decide)
              change _ = some (Value.bool true) at x0
              change _ = some (Value.int .i64 a) at x1
              change _ = some (Value.bool true) at z0
              change _ = some (Value.int .i64 c) at z1
              have HQ9 := Lib.hid HS6.out
              go_wp2_with (refine wpList_store_seg rfl 74 _ _ rfl b4 0 74 4 4 _ (fun k => if k = 0 then .int .i64 (-a) else if k = 1 then .int .i64 c else .bool false) rfl rfl HQ9.out.an (by omega) sizeSpn (fun q _ => by show (if q = 0 then Value.int .i64 (-a) else if q = 1 then .int .i64 c else .bool false).oneCell' = true; split; rfl; split <;> rfl) ?_; intro w9 h9 hT9 hs9)
              refine bodyPost_ret (result_seg rfl _ _ b4 _ 4 _ _ rfl h9 Try.underlying74 rfl sizeSpn) rfl ⟨rfl, HQ9.out.bl.trans (hT9.below HB4.out HQ9.out.sz)⟩
      · refine step_alloc_seg (by rfl) 77 rfl 2 _ zeroBnd ?_
        intro y7 h hB hs
        have Nh := Lib.hid hHeld.ne
        have HS7 := Lib.hid (hHeld.up hB)
        have Fh7 := Lib.hid h
        clear h hB hs
        refine hK.out _ _ HS7.out (fun hHeld => ?_)
        clear hK K
        try simp only [Act.put, List.setIfInBounds_toArray, List.set_cons_zero, List.set_cons_succ]
        refine wpAnyH_ready (rs := [12]) (by kernel_rfl) (by simp) ?_
        refine AllReadyH.cons rfl (fun K hK => ?_) AllReadyH.nil
        · refine step_alloc_seg (by rfl) 77 rfl 2 _ zeroBnd ?_
          intro y8 h hB hs
          have Nl := Lib.hid hHeld.ne
          have HS8 := Lib.hid (hHeld.up hB)
          have NE := Lib.hid (Nat.ne_of_lt Fh7.out.lt)
          have Fh8 := Lib.hid (Fh7.out.up hB)
          have Fl8 := Lib.hid h
          clear h hB hs
          refine hK.out _ _ HS8.out (fun hHeld => ?_)
          clear hK K
          try simp only [Act.put, List.setIfInBounds_toArray, List.set_cons_zero, List.set_cons_succ]
          refine wpAnyH_ready (rs := [14]) (by kernel_rfl) (by simp) ?_
          refine AllReadyH.cons rfl (fun K hK => ?_) AllReadyH.nil
          · refine step_store_seg (by rfl) 77 _ _ rfl _ 0 77 2 2 _ (bn2 a) rfl (congrArg Value.agg (bn2_arr a)) Fl8.out (by omega) sizeBnd (bn2_one a) ?_
            intro y9 h hT hs
            have HS9 := Lib.hid (hHeld.touch hT Nl.out)
            have Fh9 := Lib.hid (Fh8.out.touch hT (by first | exact NE.out | exact Ne.symm NE.out))
            have Fl9 := Lib.hid (h.congr (f' := bn2 a) fun q hq => by unfold updR; rw [if_pos (by omega), Nat.sub_zero])
            clear h hT hs
            refine hK.out _ _ HS9.out (fun hHeld => ?_)
            clear hK K
            try simp only [Act.put, List.setIfInBounds_toArray, List.set_cons_zero, List.set_cons_succ]
            refine wpAnyH_ready (rs := [15]) (by kernel_rfl) (by simp) ?_
            refine AllReadyH.cons rfl (fun K hK => ?_) AllReadyH.nil
            · refine step_store_seg (by rfl) 77 _ _ rfl _ 0 77 2 2 _ (bn2 c) rfl (congrArg Value.agg (bn2_arr c)) Fh9.out (by omega) sizeBnd (bn2_one c) ?_
              intro y10 h hT hs
              have HS10 := Lib.hid (hHeld.touch hT Nh.out)
              have Fl10 := Lib.hid (Fl9.out.touch hT (by first | exact NE.out | exact Ne.symm NE.out))
              have Fh10 := Lib.hid (h.congr (f' := bn2 c) fun q hq => by unfold updR; rw [if_pos (by omega), Nat.sub_zero])
              clear h hT hs
              refine hK.out _ _ HS10.out (fun hHeld => ?_)
              clear hK K
              try simp only [Act.put, List.setIfInBounds_toArray, List.set_cons_zero, List.set_cons_succ]
              refine wpAnyH_done (by kernel_rfl) ?_ _
              clear hHeld
              have x0 := Fl10.out.cell 0 (by decide)
              have x1 := Fl10.out.cell 1 (by decide)
              have z0 := Fh10.out.cell 0 (by decide)
              have z1 := Fh10.out.cell 1 (by decide)
              change _ = some (Value.bool true) at x0
              change _ = some (Value.int .i64 a) at x1
              change _ = some (Value.bool true) at z0
              change _ = some (Value.int .i64 c) at z1
              have HQ9 := Lib.hid HS10.out
              go_wp2_with (refine wpList_store_seg rfl 74 _ _ rfl b4 0 74 4 4 _ (fun k => if k = 0 then .int .i64 (-a) else if k = 1 then .int .i64 c else .bool false) rfl rfl HQ9.out.an (by omega) sizeSpn (fun q _ => by show (if q = 0 then Value.int .i64 (-a) else if q = 1 then .int .i64 c else .bool false).oneCell' = true; split; rfl; split <;> rfl) ?_; intro w9 h9 hT9 hs9)
              refine bodyPost_ret (result_seg rfl _ _ b4 _ 4 _ _ rfl h9 Try.underlying74 rfl sizeSpn) rfl ⟨rfl, HQ9.out.bl.trans (hT9.below HB4.out HQ9.out.sz)⟩
    · refine step_alloc_seg (by rfl) 77 rfl 2 _ zeroBnd ?_
      intro y11 h hB hs
      have Nl := Lib.hid hHeld.ne
      have HS11 := Lib.hid (hHeld.up hB)
      have Fl11 := Lib.hid h
      clear h hB hs
      refine hK.out _ _ HS11.out (fun hHeld => ?_)
      clear hK K
      try simp only [Act.put, List.setIfInBounds_toArray, List.set_cons_zero, List.set_cons_succ]
      refine wpAnyH_ready (rs := [11, 13]) (by kernel_rfl) (by simp) ?_
      refine AllReadyH.cons rfl (fun K hK => ?_) (AllReadyH.cons rfl (fun K hK => ?_) AllReadyH.nil)
      · go_simp
        go_at_call 31
        refine (HH.out _ p hHeld.zn).mono ?_
        rintro e y12 ⟨rfl, hB⟩
        have HS12 := Lib.hid (hHeld.up hB)
        have Fl12 := Lib.hid (Fl11.out.up hB)
        clear hB
        refine hK.out _ _ HS12.out (fun hHeld => ?_)
        clear hK K
        try simp only [Act.put, List.setIfInBounds_toArray, List.set_cons_zero, List.set_cons_succ]
        refine wpAnyH_ready (rs := [13]) (by kernel_rfl) (by simp) ?_
        refine AllReadyH.cons rfl (fun K hK => ?_) AllReadyH.nil
        · refine step_alloc_seg (by rfl) 77 rfl 2 _ zeroBnd ?_
          intro y13 h hB hs
          have Nh := Lib.hid hHeld.ne
          have HS13 := Lib.hid (hHeld.up hB)
          have NE := Lib.hid (Nat.ne_of_lt Fl12.out.lt)
          have Fl13 := Lib.hid (Fl12.out.up hB)
          have Fh13 := Lib.hid h
          clear h hB hs
          refine hK.out _ _ HS13.out (fun hHeld => ?_)
          clear hK K
          try simp only [Act.put, List.setIfInBounds_toArray, List.set_cons_zero, List.set_cons_succ]
          refine wpAnyH_ready (rs := [14]) (by kernel_rfl) (by simp) ?_
          refine AllReadyH.cons rfl (fun K hK => ?_) AllReadyH.nil
          · refine step_store_seg (by rfl) 77 _ _ rfl _ 0 77 2 2 _ (bn2 a) rfl (congrArg Value.agg (bn2_arr a)) Fl13.out (by omega) sizeBnd (bn2_one a) ?_
            intro y14 h hT hs
            have HS14 := Lib.hid (hHeld.touch hT Nl.out)
            have Fh14 := Lib.hid (Fh13.out.touch hT (by first | exact NE.out | exact Ne.symm NE.out))
            have Fl14 := Lib.hid (h.congr (f' := bn2 a) fun q hq => by unfold updR; rw [if_pos (by omega), Nat.sub_zero])
            clear h hT hs
            refine hK.out _ _ HS14.out (fun hHeld => ?_)
            clear hK K
            try simp only [Act.put, List.setIfInBounds_toArray, List.set_cons_zero, List.set_cons_succ]
            refine wpAnyH_ready (rs := [15]) (by kernel_rfl) (by simp) ?_
            refine AllReadyH.cons rfl (fun K hK => ?_) AllReadyH.nil
            · refine step_store_seg (by rfl) 77 _ _ rfl _ 0 77 2 2 _ (bn2 c) rfl (congrArg Value.agg (bn2_arr c)) Fh14.out (by omega) sizeBnd (bn2_one c) ?_
              intro y15 h hT hs
              have HS15 := Lib.hid (hHeld.touch hT Nh.out)
              have Fl15 := Lib.hid (Fl14.out.touch hT (by first | exact NE.out | exact Ne.symm NE.out))
              have Fh15 := Lib.hid (h.congr (f' := bn2 c) fun q hq => by unfold updR; rw [if_pos (by omega), Nat.sub_zero])
              clear h hT hs
              refine hK.out _ _ HS15.out (fun hHeld => ?_)
              clear hK K
              try simp only [Act.put, List.setIfInBounds_toArray, List.set_cons_zero, List.set_cons_succ]
              refine wpAnyH_done (by kernel_rfl) ?_ _
              clear hHeld
              have x0 := Fl15.out.cell 0 (by decide)
              have x1 := Fl15.out.cell 1 (by decide)
              have z0 := Fh15.out.cell 0 (by decide)
              have z1 := Fh15.out.cell 1 (by decide)
              change _ = some (Value.bool true) at x0
              change _ = some (Value.int .i64 a) at x1
              change _ = some (Value.bool true) at z0
              change _ = some (Value.int .i64 c) at z1
              have HQ9 := Lib.hid HS15.out
              go_wp2_with (refine wpList_store_seg rfl 74 _ _ rfl b4 0 74 4 4 _ (fun k => if k = 0 then .int .i64 (-a) else if k = 1 then .int .i64 c else .bool false) rfl rfl HQ9.out.an (by omega) sizeSpn (fun q _ => by show (if q = 0 then Value.int .i64 (-a) else if q = 1 then .int .i64 c else .bool false).oneCell' = true; split; rfl; split <;> rfl) ?_; intro w9 h9 hT9 hs9)
              refine bodyPost_ret (result_seg rfl _ _ b4 _ 4 _ _ rfl h9 Try.underlying74 rfl sizeSpn) rfl ⟨rfl, HQ9.out.bl.trans (hT9.below HB4.out HQ9.out.sz)⟩
      · refine step_alloc_seg (by rfl) 77 rfl 2 _ zeroBnd ?_
        intro y16 h hB hs
        have Nh := Lib.hid hHeld.ne
        have HS16 := Lib.hid (hHeld.up hB)
        have NE := Lib.hid (Nat.ne_of_lt Fl11.out.lt)
        have Fl16 := Lib.hid (Fl11.out.up hB)
        have Fh16 := Lib.hid h
        clear h hB hs
        refine hK.out _ _ HS16.out (fun hHeld => ?_)
        clear hK K
        try simp only [Act.put, List.setIfInBounds_toArray, List.set_cons_zero, List.set_cons_succ]
        refine wpAnyH_ready (rs := [11]) (by kernel_rfl) (by simp) ?_
        refine AllReadyH.cons rfl (fun K hK => ?_) AllReadyH.nil
        · go_simp
          go_at_call 31
          refine (HH.out _ p hHeld.zn).mono ?_
          rintro e y17 ⟨rfl, hB⟩
          have HS17 := Lib.hid (hHeld.up hB)
          have Fl17 := Lib.hid (Fl16.out.up hB)
          have Fh17 := Lib.hid (Fh16.out.up hB)
          clear hB
          refine hK.out _ _ HS17.out (fun hHeld => ?_)
          clear hK K
          try simp only [Act.put, List.setIfInBounds_toArray, List.set_cons_zero, List.set_cons_succ]
          refine wpAnyH_ready (rs := [14]) (by kernel_rfl) (by simp) ?_
          refine AllReadyH.cons rfl (fun K hK => ?_) AllReadyH.nil
          · refine step_store_seg (by rfl) 77 _ _ rfl _ 0 77 2 2 _ (bn2 a) rfl (congrArg Value.agg (bn2_arr a)) Fl17.out (by omega) sizeBnd (bn2_one a) ?_
            intro y18 h hT hs
            have HS18 := Lib.hid (hHeld.touch hT Nl.out)
            have Fh18 := Lib.hid (Fh17.out.touch hT (by first | exact NE.out | exact Ne.symm NE.out))
            have Fl18 := Lib.hid (h.congr (f' := bn2 a) fun q hq => by unfold updR; rw [if_pos (by omega), Nat.sub_zero])
            clear h hT hs
            refine hK.out _ _ HS18.out (fun hHeld => ?_)
            clear hK K
            try simp only [Act.put, List.setIfInBounds_toArray, List.set_cons_zero, List.set_cons_succ]
            refine wpAnyH_ready (rs := [15]) (by kernel_rfl) (by simp) ?_
            refine AllReadyH.cons rfl (fun K hK => ?_) AllReadyH.nil
            · refine step_store_seg (by rfl) 77 _ _ rfl _ 0 77 2 2 _ (bn2 c) rfl (congrArg Value.agg (bn2_arr c)) Fh18.out (by omega) sizeBnd (bn2_one c) ?_
              intro y19 h hT hs
              have HS19 := Lib.hid (hHeld.touch hT Nh.out)
              have Fl19 := Lib.hid (Fl18.out.touch hT (by first | exact NE.out | exact Ne.symm NE.out))
              have Fh19 := Lib.hid (h.congr (f' := bn2 c) fun q hq => by unfold updR; rw [if_pos (by omega), Nat.sub_zero])
              clear h hT hs
              refine hK.out _ _ HS19.out (fun hHeld => ?_)
              clear hK K
              try simp only [Act.put, List.setIfInBounds_toArray, List.set_cons_zero, List.set_cons_succ]
              refine wpAnyH_done (by kernel_rfl) ?_ _
              clear hHeld
              have x0 := Fl19.out.cell 0 (by decide)
              have x1 := Fl19.out.cell 1 (by decide)
              have z0 := Fh19.out.cell 0 (by decide)
              have z1 := Fh19.out.cell 1 (by decide)
              change _ = some (Value.bool true) at x0
              change _ = some (Value.int .i64 a) at x1
              change _ = some (Value.bool true) at z0
              change _ = some (Value.int .i64 c) at z1
              have HQ9 := Lib.hid HS19.out
              go_wp2_with (refine wpList_store_seg rfl 74 _ _ rfl b4 0 74 4 4 _ (fun k => if k = 0 then .int .i64 (-a) else if k = 1 then .int .i64 c else .bool false) rfl rfl HQ9.out.an (by omega) sizeSpn (fun q _ => by show (if q = 0 then Value.int .i64 (-a) else if q = 1 then .int .i64 c else .bool false).oneCell' = true; split; rfl; split <;> rfl) ?_; intro w9 h9 hT9 hs9)
              refine bodyPost_ret (result_seg rfl _ _ b4 _ 4 _ _ rfl h9 Try.underlying74 rfl sizeSpn) rfl ⟨rfl, HQ9.out.bl.trans (hT9.below HB4.out HQ9.out.sz)⟩
    · refine step_alloc_seg (by rfl) 77 rfl 2 _ zeroBnd ?_
      intro y20 h hB hs
      have Nh := Lib.hid hHeld.ne
      have HS20 := Lib.hid (hHeld.up hB)
      have Fh20 := Lib.hid h
      clear h hB hs
      refine hK.out _ _ HS20.out (fun hHeld => ?_)
      clear hK K
      try simp only [Act.put, List.setIfInBounds_toArray, List.set_cons_zero, List.set_cons_succ]
      refine wpAnyH_ready (rs := [11, 12]) (by kernel_rfl) (by simp) ?_
      refine AllReadyH.cons rfl (fun K hK => ?_) (AllReadyH.cons rfl (fun K hK => ?_) AllReadyH.nil)
      · go_simp
        go_at_call 31
        refine (HH.out _ p hHeld.zn).mono ?_
        rintro e y21 ⟨rfl, hB⟩
        have HS21 := Lib.hid (hHeld.up hB)
        have Fh21 := Lib.hid (Fh20.out.up hB)
        clear hB
        refine hK.out _ _ HS21.out (fun hHeld => ?_)
        clear hK K
        try simp only [Act.put, List.setIfInBounds_toArray, List.set_cons_zero, List.set_cons_succ]
        refine wpAnyH_ready (rs := [12]) (by kernel_rfl) (by simp) ?_
        refine AllReadyH.cons rfl (fun K hK => ?_) AllReadyH.nil
        · refine step_alloc_seg (by rfl) 77 rfl 2 _ zeroBnd ?_
          intro y22 h hB hs
          have Nl := Lib.hid hHeld.ne
          have HS22 := Lib.hid (hHeld.up hB)
          have NE := Lib.hid (Nat.ne_of_lt Fh21.out.lt)
          have Fh22 := Lib.hid (Fh21.out.up hB)
          have Fl22 := Lib.hid h
          clear h hB hs
          refine hK.out _ _ HS22.out (fun hHeld => ?_)
          clear hK K
          try simp only [Act.put, List.setIfInBounds_toArray, List.set_cons_zero, List.set_cons_succ]
          refine wpAnyH_ready (rs := [14]) (by kernel_rfl) (by simp) ?_
          refine AllReadyH.cons rfl (fun K hK => ?_) AllReadyH.nil
          · refine step_store_seg (by rfl) 77 _ _ rfl _ 0 77 2 2 _ (bn2 a) rfl (congrArg Value.agg (bn2_arr a)) Fl22.out (by omega) sizeBnd (bn2_one a) ?_
            intro y23 h hT hs
            have HS23 := Lib.hid (hHeld.touch hT Nl.out)
            have Fh23 := Lib.hid (Fh22.out.touch hT (by first | exact NE.out | exact Ne.symm NE.out))
            have Fl23 := Lib.hid (h.congr (f' := bn2 a) fun q hq => by unfold updR; rw [if_pos (by omega), Nat.sub_zero])
            clear h hT hs
            refine hK.out _ _ HS23.out (fun hHeld => ?_)
            clear hK K
            try simp only [Act.put, List.setIfInBounds_toArray, List.set_cons_zero, List.set_cons_succ]
            refine wpAnyH_ready (rs := [15]) (by kernel_rfl) (by simp) ?_
            refine AllReadyH.cons rfl (fun K hK => ?_) AllReadyH.nil
            · refine step_store_seg (by rfl) 77 _ _ rfl _ 0 77 2 2 _ (bn2 c) rfl (congrArg Value.agg (bn2_arr c)) Fh23.out (by omega) sizeBnd (bn2_one c) ?_
              intro y24 h hT hs
              have HS24 := Lib.hid (hHeld.touch hT Nh.out)
              have Fl24 := Lib.hid (Fl23.out.touch hT (by first | exact NE.out | exact Ne.symm NE.out))
              have Fh24 := Lib.hid (h.congr (f' := bn2 c) fun q hq => by unfold updR; rw [if_pos (by omega), Nat.sub_zero])
              clear h hT hs
              refine hK.out _ _ HS24.out (fun hHeld => ?_)
              clear hK K
              try simp only [Act.put, List.setIfInBounds_toArray, List.set_cons_zero, List.set_cons_succ]
              refine wpAnyH_done (by kernel_rfl) ?_ _
              clear hHeld
              have x0 := Fl24.out.cell 0 (by decide)
              have x1 := Fl24.out.cell 1 (by decide)
              have z0 := Fh24.out.cell 0 (by decide)
              have z1 := Fh24.out.cell 1 (by decide)
              change _ = some (Value.bool true) at x0
              change _ = some (Value.int .i64 a) at x1
              change _ = some (Value.bool true) at z0
              change _ = some (Value.int .i64 c) at z1
              have HQ9 := Lib.hid HS24.out
              go_wp2_with (refine wpList_store_seg rfl 74 _ _ rfl b4 0 74 4 4 _ (fun k => if k = 0 then .int .i64 (-a) else if k = 1 then .int .i64 c else .bool false) rfl rfl HQ9.out.an (by omega) sizeSpn (fun q _ => by show (if q = 0 then Value.int .i64 (-a) else if q = 1 then .int .i64 c else .bool false).oneCell' = true; split; rfl; split <;> rfl) ?_; intro w9 h9 hT9 hs9)
              refine bodyPost_ret (result_seg rfl _ _ b4 _ 4 _ _ rfl h9 Try.underlying74 rfl sizeSpn) rfl ⟨rfl, HQ9.out.bl.trans (hT9.below HB4.out HQ9.out.sz)⟩
      · refine step_alloc_seg (by rfl) 77 rfl 2 _ zeroBnd ?_
        intro y25 h hB hs
        have Nl := Lib.hid hHeld.ne
        have HS25 := Lib.hid (hHeld.up hB)
        have NE := Lib.hid (Nat.ne_of_lt Fh20.out.lt)
        have Fh25 := Lib.hid (Fh20.out.up hB)
        have Fl25 := Lib.hid h
        clear h hB hs
        refine hK.out _ _ HS25.out (fun hHeld => ?_)
        clear hK K
        try simp only [Act.put, List.setIfInBounds_toArray, List.set_cons_zero, List.set_cons_succ]
        refine wpAnyH_ready (rs := [11]) (by kernel_rfl) (by simp) ?_
        refine AllReadyH.cons rfl (fun K hK => ?_) AllReadyH.nil
        · go_simp
          go_at_call 31
          refine (HH.out _ p hHeld.zn).mono ?_
          rintro e y26 ⟨rfl, hB⟩
          have HS26 := Lib.hid (hHeld.up hB)
          have Fh26 := Lib.hid (Fh25.out.up hB)
          have Fl26 := Lib.hid (Fl25.out.up hB)
          clear hB
          refine hK.out _ _ HS26.out (fun hHeld => ?_)
          clear hK K
          try simp only [Act.put, List.setIfInBounds_toArray, List.set_cons_zero, List.set_cons_succ]
          refine wpAnyH_ready (rs := [14]) (by kernel_rfl) (by simp) ?_
          refine AllReadyH.cons rfl (fun K hK => ?_) AllReadyH.nil
          · refine step_store_seg (by rfl) 77 _ _ rfl _ 0 77 2 2 _ (bn2 a) rfl (congrArg Value.agg (bn2_arr a)) Fl26.out (by omega) sizeBnd (bn2_one a) ?_
            intro y27 h hT hs
            have HS27 := Lib.hid (hHeld.touch hT Nl.out)
            have Fh27 := Lib.hid (Fh26.out.touch hT (by first | exact NE.out | exact Ne.symm NE.out))
            have Fl27 := Lib.hid (h.congr (f' := bn2 a) fun q hq => by unfold updR; rw [if_pos (by omega), Nat.sub_zero])
            clear h hT hs
            refine hK.out _ _ HS27.out (fun hHeld => ?_)
            clear hK K
            try simp only [Act.put, List.setIfInBounds_toArray, List.set_cons_zero, List.set_cons_succ]
            refine wpAnyH_ready (rs := [15]) (by kernel_rfl) (by simp) ?_
            refine AllReadyH.cons rfl (fun K hK => ?_) AllReadyH.nil
            · refine step_store_seg (by rfl) 77 _ _ rfl _ 0 77 2 2 _ (bn2 c) rfl (congrArg Value.agg (bn2_arr c)) Fh27.out (by omega) sizeBnd (bn2_one c) ?_
              intro y28 h hT hs
              have HS28 := Lib.hid (hHeld.touch hT Nh.out)
              have Fl28 := Lib.hid (Fl27.out.touch hT (by first | exact NE.out | exact Ne.symm NE.out))
              have Fh28 := Lib.hid (h.congr (f' := bn2 c) fun q hq => by unfold updR; rw [if_pos (by omega), Nat.sub_zero])
              clear h hT hs
              refine hK.out _ _ HS28.out (fun hHeld => ?_)
              clear hK K
              try simp only [Act.put, List.setIfInBounds_toArray, List.set_cons_zero, List.set_cons_succ]
              refine wpAnyH_done (by kernel_rfl) ?_ _
              clear hHeld
              have x0 := Fl28.out.cell 0 (by decide)
              have x1 := Fl28.out.cell 1 (by decide)
              have z0 := Fh28.out.cell 0 (by decide)
              have z1 := Fh28.out.cell 1 (by decide)
              change _ = some (Value.bool true) at x0
              change _ = some (Value.int .i64 a) at x1
              change _ = some (Value.bool true) at z0
              change _ = some (Value.int .i64 c) at z1
              have HQ9 := Lib.hid HS28.out
              go_wp2_with (refine wpList_store_seg rfl 74 _ _ rfl b4 0 74 4 4 _ (fun k => if k = 0 then .int .i64 (-a) else if k = 1 then .int .i64 c else .bool false) rfl rfl HQ9.out.an (by omega) sizeSpn (fun q _ => by show (if q = 0 then Value.int .i64 (-a) else if q = 1 then .int .i64 c else .bool false).oneCell' = true; split; rfl; split <;> rfl) ?_; intro w9 h9 hT9 hs9)
              refine bodyPost_ret (result_seg rfl _ _ b4 _ 4 _ _ rfl h9 Try.underlying74 rfl sizeSpn) rfl ⟨rfl, HQ9.out.bl.trans (hT9.below HB4.out HQ9.out.sz)⟩
  · refine step_alloc_seg (by rfl) 77 rfl 2 _ zeroBnd ?_
    intro y29 h hB hs
    have Nl := Lib.hid hHeld.ne
    have HS29 := Lib.hid (hHeld.up hB)
    have Fl29 := Lib.hid h
    clear h hB hs
    refine hK.out _ _ HS29.out (fun hHeld => ?_)
    clear hK K
    try simp only [Act.put, List.setIfInBounds_toArray, List.set_cons_zero, List.set_cons_succ]
    refine wpAnyH_ready (rs := [5, 13]) (by kernel_rfl) (by simp) ?_
    refine AllReadyH.cons rfl (fun K hK => ?_) (AllReadyH.cons rfl (fun K hK => ?_) AllReadyH.nil)
    · go_simp
      go_at_call 31
      refine (HL.out _ p hHeld.zn).mono ?_
      rintro e y30 ⟨rfl, hB⟩
      have HS30 := Lib.hid (hHeld.up hB)
      have Fl30 := Lib.hid (Fl29.out.up hB)
      clear hB
      refine hK.out _ _ HS30.out (fun hHeld => ?_)
      clear hK K
      try simp only [Act.put, List.setIfInBounds_toArray, List.set_cons_zero, List.set_cons_succ]
      refine wpAnyH_ready (rs := [11, 13]) (by kernel_rfl) (by simp) ?_
      refine AllReadyH.cons rfl (fun K hK => ?_) (AllReadyH.cons rfl (fun K hK => ?_) AllReadyH.nil)
      · go_simp
        go_at_call 31
        refine (HH.out _ p hHeld.zn).mono ?_
        rintro e y31 ⟨rfl, hB⟩
        have HS31 := Lib.hid (hHeld.up hB)
        have Fl31 := Lib.hid (Fl30.out.up hB)
        clear hB
        refine hK.out _ _ HS31.out (fun hHeld => ?_)
        clear hK K
        try simp only [Act.put, List.setIfInBounds_toArray, List.set_cons_zero, List.set_cons_succ]
        refine wpAnyH_ready (rs := [13]) (by kernel_rfl) (by simp) ?_
        refine AllReadyH.cons rfl (fun K hK => ?_) AllReadyH.nil
        · refine step_alloc_seg (by rfl) 77 rfl 2 _ zeroBnd ?_
          intro y32 h hB hs
          have Nh := Lib.hid hHeld.ne
          have HS32 := Lib.hid (hHeld.up hB)
          have NE := Lib.hid (Nat.ne_of_lt Fl31.out.lt)
          have Fl32 := Lib.hid (Fl31.out.up hB)
          have Fh32 := Lib.hid h
          clear h hB hs
          refine hK.out _ _ HS32.out (fun hHeld => ?_)
          clear hK K
          try simp only [Act.put, List.setIfInBounds_toArray, List.set_cons_zero, List.set_cons_succ]
          refine wpAnyH_ready (rs := [14]) (by kernel_rfl) (by simp) ?_
          refine AllReadyH.cons rfl (fun K hK => ?_) AllReadyH.nil
          · refine step_store_seg (by rfl) 77 _ _ rfl _ 0 77 2 2 _ (bn2 a) rfl (congrArg Value.agg (bn2_arr a)) Fl32.out (by omega) sizeBnd (bn2_one a) ?_
            intro y33 h hT hs
            have HS33 := Lib.hid (hHeld.touch hT Nl.out)
            have Fh33 := Lib.hid (Fh32.out.touch hT (by first | exact NE.out | exact Ne.symm NE.out))
            have Fl33 := Lib.hid (h.congr (f' := bn2 a) fun q hq => by unfold updR; rw [if_pos (by omega), Nat.sub_zero])
            clear h hT hs
            refine hK.out _ _ HS33.out (fun hHeld => ?_)
            clear hK K
            try simp only [Act.put, List.setIfInBounds_toArray, List.set_cons_zero, List.set_cons_succ]
            refine wpAnyH_ready (rs := [15]) (by kernel_rfl) (by simp) ?_
            refine AllReadyH.cons rfl (fun K hK => ?_) AllReadyH.nil
            · refine step_store_seg (by rfl) 77 _ _ rfl _ 0 77 2 2 _ (bn2 c) rfl (congrArg Value.agg (bn2_arr c)) Fh33.out (by omega) sizeBnd (bn2_one c) ?_
              intro y34 h hT hs
              have HS34 := Lib.hid (hHeld.touch hT Nh.out)
              have Fl34 := Lib.hid (Fl33.out.touch hT (by first | exact NE.out | exact Ne.symm NE.out))
              have Fh34 := Lib.hid (h.congr (f' := bn2 c) fun q hq => by unfold updR; rw [if_pos (by omega), Nat.sub_zero])
              clear h hT hs
              refine hK.out _ _ HS34.out (fun hHeld => ?_)
              clear hK K
              try simp only [Act.put, List.setIfInBounds_toArray, List.set_cons_zero, List.set_cons_succ]
              refine wpAnyH_done (by kernel_rfl) ?_ _
              clear hHeld
              have x0 := Fl34.out.cell 0 (by decide)
              have x1 := Fl34.out.cell 1 (by decide)
              have z0 := Fh34.out.cell 0 (by decide)
              have z1 := Fh34.out.cell 1 (by decide)
              change _ = some (Value.bool true) at x0
              change _ = some (Value.int .i64 a) at x1
              change _ = some (Value.bool true) at z0
              change _ = some (Value.int .i64 c) at z1
              have HQ9 := Lib.hid HS34.out
              go_wp2_with (refine wpList_store_seg rfl 74 _ _ rfl b4 0 74 4 4 _ (fun k => if k = 0 then .int .i64 (-a) else if k = 1 then .int .i64 c else .bool false) rfl rfl HQ9.out.an (by omega) sizeSpn (fun q _ => by show (if q = 0 then Value.int .i64 (-a) else if q = 1 then .int .i64 c else .bool false).oneCell' = true; split; rfl; split <;> rfl) ?_; intro w9 h9 hT9 hs9)
              refine bodyPost_ret (result_seg rfl _ _ b4 _ 4 _ _ rfl h9 Try.underlying74 rfl sizeSpn) rfl ⟨rfl, HQ9.out.bl.trans (hT9.below HB4.out HQ9.out.sz)⟩
      · refine step_alloc_seg (by rfl) 77 rfl 2 _ zeroBnd ?_
        intro y35 h hB hs
        have Nh := Lib.hid hHeld.ne
        have HS35 := Lib.hid (hHeld.up hB)
        have NE := Lib.hid (Nat.ne_of_lt Fl30.out.lt)
        have Fl35 := Lib.hid (Fl30.out.up hB)
        have Fh35 := Lib.hid h
        clear h hB hs
        refine hK.out _ _ HS35.out (fun hHeld => ?_)
        clear hK K
        try simp only [Act.put, List.setIfInBounds_toArray, List.set_cons_zero, List.set_cons_succ]
        refine wpAnyH_ready (rs := [11]) (by kernel_rfl) (by simp) ?_
        refine AllReadyH.cons rfl (fun K hK => ?_) AllReadyH.nil
        · go_simp
          go_at_call 31
          refine (HH.out _ p hHeld.zn).mono ?_
          rintro e y36 ⟨rfl, hB⟩
          have HS36 := Lib.hid (hHeld.up hB)
          have Fl36 := Lib.hid (Fl35.out.up hB)
          have Fh36 := Lib.hid (Fh35.out.up hB)
          clear hB
          refine hK.out _ _ HS36.out (fun hHeld => ?_)
          clear hK K
          try simp only [Act.put, List.setIfInBounds_toArray, List.set_cons_zero, List.set_cons_succ]
          refine wpAnyH_ready (rs := [14]) (by kernel_rfl) (by simp) ?_
          refine AllReadyH.cons rfl (fun K hK => ?_) AllReadyH.nil
          · refine step_store_seg (by rfl) 77 _ _ rfl _ 0 77 2 2 _ (bn2 a) rfl (congrArg Value.agg (bn2_arr a)) Fl36.out (by omega) sizeBnd (bn2_one a) ?_
            intro y37 h hT hs
            have HS37 := Lib.hid (hHeld.touch hT Nl.out)
            have Fh37 := Lib.hid (Fh36.out.touch hT (by first | exact NE.out | exact Ne.symm NE.out))
            have Fl37 := Lib.hid (h.congr (f' := bn2 a) fun q hq => by unfold updR; rw [if_pos (by omega), Nat.sub_zero])
            clear h hT hs
            refine hK.out _ _ HS37.out (fun hHeld => ?_)
            clear hK K
            try simp only [Act.put, List.setIfInBounds_toArray, List.set_cons_zero, List.set_cons_succ]
            refine wpAnyH_ready (rs := [15]) (by kernel_rfl) (by simp) ?_
            refine AllReadyH.cons rfl (fun K hK => ?_) AllReadyH.nil
            · refine step_store_seg (by rfl) 77 _ _ rfl _ 0 77 2 2 _ (bn2 c) rfl (congrArg Value.agg (bn2_arr c)) Fh37.out (by omega) sizeBnd (bn2_one c) ?_
              intro y38 h hT hs
              have HS38 := Lib.hid (hHeld.touch hT Nh.out)
              have Fl38 := Lib.hid (Fl37.out.touch hT (by first | exact NE.out | exact Ne.symm NE.out))
              have Fh38 := Lib.hid (h.congr (f' := bn2 c) fun q hq => by unfold updR; rw [if_pos (by omega), Nat.sub_zero])
              clear h hT hs
              refine hK.out _ _ HS38.out (fun hHeld => ?_)
              clear hK K
              try simp only [Act.put, List.setIfInBounds_toArray, List.set_cons_zero, List.set_cons_succ]
              refine wpAnyH_done (by kernel_rfl) ?_ _
              clear hHeld
              have x0 := Fl38.out.cell 0 (by decide)
              have x1 := Fl38.out.cell 1 (by decide)
              have z0 := Fh38.out.cell 0 (by decide)
              have z1 := Fh38.out.cell 1 (by decide)
              change _ = some (Value.bool true) at x0
              change _ = some (Value.int .i64 a) at x1
              change _ = some (Value.bool true) at z0
              change _ = some (Value.int .i64 c) at z1
              have HQ9 := Lib.hid HS38.out
              go_wp2_with (refine wpList_store_seg rfl 74 _ _ rfl b4 0 74 4 4 _ (fun k => if k = 0 then .int .i64 (-a) else if k = 1 then .int .i64 c else .bool false) rfl rfl HQ9.out.an (by omega) sizeSpn (fun q _ => by show (if q = 0 then Value.int .i64 (-a) else if q = 1 then .int .i64 c else .bool false).oneCell' = true; split; rfl; split <;> rfl) ?_; intro w9 h9 hT9 hs9)
              refine bodyPost_ret (result_seg rfl _ _ b4 _ 4 _ _ rfl h9 Try.underlying74 rfl sizeSpn) rfl ⟨rfl, HQ9.out.bl.trans (hT9.below HB4.out HQ9.out.sz)⟩
    · refine step_alloc_seg (by rfl) 77 rfl 2 _ zeroBnd ?_
      intro y39 h hB hs
      have Nh := Lib.hid hHeld.ne
      have HS39 := Lib.hid (hHeld.up hB)
      have NE := Lib.hid (Nat.ne_of_lt Fl29.out.lt)
      have Fl39 := Lib.hid (Fl29.out.up hB)
      have Fh39 := Lib.hid h
      clear h hB hs
      refine hK.out _ _ HS39.out (fun hHeld => ?_)
      clear hK K
      try simp only [Act.put, List.setIfInBounds_toArray, List.set_cons_zero, List.set_cons_succ]
      refine wpAnyH_ready (rs := [5]) (by kernel_rfl) (by simp) ?_
      refine AllReadyH.cons rfl (fun K hK => ?_) AllReadyH.nil
      · go_simp
        go_at_call 31
        refine (HL.out _ p hHeld.zn).mono ?_
        rintro e y40 ⟨rfl, hB⟩
        have HS40 := Lib.hid (hHeld.up hB)
        have Fl40 := Lib.hid (Fl39.out.up hB)
        have Fh40 := Lib.hid (Fh39.out.up hB)
        clear hB
        refine hK.out _ _ HS40.out (fun hHeld => ?_)
        clear hK K
        try simp only [Act.put, List.setIfInBounds_toArray, List.set_cons_zero, List.set_cons_succ]
        refine wpAnyH_ready (rs := [11]) (by kernel_rfl) (by simp) ?_
        refine AllReadyH.cons rfl (fun K hK => ?_) AllReadyH.nil
        · go_simp
          go_at_call 31
          refine (HH.out _ p hHeld.zn).mono ?_
          rintro e y41 ⟨rfl, hB⟩
          have HS41 := Lib.hid (hHeld.up hB)
          have Fl41 := Lib.hid (Fl40.out.up hB)
          have Fh41 := Lib.hid (Fh40.out.up hB)
          clear hB
          refine hK.out _ _ HS41.out (fun hHeld => ?_)
          clear hK K
          try simp only [Act.put, List.setIfInBounds_toArray, List.set_cons_zero, List.set_cons_succ]
          refine wpAnyH_ready (rs := [14]) (by kernel_rfl) (by simp) ?_
          refine AllReadyH.cons rfl (fun K hK => ?_) AllReadyH.nil
          · refine step_store_seg (by rfl) 77 _ _ rfl _ 0 77 2 2 _ (bn2 a) rfl (congrArg Value.agg (bn2_arr a)) Fl41.out (by omega) sizeBnd (bn2_one a) ?_
            intro y42 h hT hs
            have HS42 := Lib.hid (hHeld.touch hT Nl.out)
            have Fh42 := Lib.hid (Fh41.out.touch hT (by first | exact NE.out | exact Ne.symm NE.out))
            have Fl42 := Lib.hid (h.congr (f' := bn2 a) fun q hq => by unfold updR; rw [if_pos (by omega), Nat.sub_zero])
            clear h hT hs
            refine hK.out _ _ HS42.out (fun hHeld => ?_)
            clear hK K
            try simp only [Act.put, List.setIfInBounds_toArray, List.set_cons_zero, List.set_cons_succ]
            refine wpAnyH_ready (rs := [15]) (by kernel_rfl) (by simp) ?_
            refine AllReadyH.cons rfl (fun K hK => ?_) AllReadyH.nil
            · refine step_store_seg (by rfl) 77 _ _ rfl _ 0 77 2 2 _ (bn2 c) rfl (congrArg Value.agg (bn2_arr c)) Fh42.out (by omega) sizeBnd (bn2_one c) ?_
              intro y43 h hT hs
              have HS43 := Lib.hid (hHeld.touch hT Nh.out)
              have Fl43 := Lib.hid (Fl42.out.touch hT (by first | exact NE.out | exact Ne.symm NE.out))
              have Fh43 := Lib.hid (h.congr (f' := bn2 c) fun q hq => by unfold updR; rw [if_pos (by omega), Nat.sub_zero])
              clear h hT hs
              refine hK.out _ _ HS43.out (fun hHeld => ?_)
              clear hK K
              try simp only [Act.put, List.setIfInBounds_toArray, List.set_cons_zero, List.set_cons_succ]
              refine wpAnyH_done (by kernel_rfl) ?_ _
              clear hHeld
              have x0 := Fl43.out.cell 0 (by decide)
              have x1 := Fl43.out.cell 1 (by decide)
              have z0 := Fh43.out.cell 0 (by decide)
              have z1 := Fh43.out.cell 1 (by decide)
              change _ = some (Value.bool true) at x0
              change _ = some (Value.int .i64 a) at x1
              change _ = some (Value.bool true) at z0
              change _ = some (Value.int .i64 c) at z1
              have HQ9 := Lib.hid HS43.out
              go_wp2_with (refine wpList_store_seg rfl 74 _ _ rfl b4 0 74 4 4 _ (fun k => if k = 0 then .int .i64 (-a) else if k = 1 then .int .i64 c else .bool false) rfl rfl HQ9.out.an (by omega) sizeSpn (fun q _ => by show (if q = 0 then Value.int .i64 (-a) else if q = 1 then .int .i64 c else .bool false).oneCell' = true; split; rfl; split <;> rfl) ?_; intro w9 h9 hT9 hs9)
              refine bodyPost_ret (result_seg rfl _ _ b4 _ 4 _ _ rfl h9 Try.underlying74 rfl sizeSpn) rfl ⟨rfl, HQ9.out.bl.trans (hT9.below HB4.out HQ9.out.sz)⟩
  · refine step_alloc_seg (by rfl) 77 rfl 2 _ zeroBnd ?_
    intro y44 h hB hs
    have Nh := Lib.hid hHeld.ne
    have HS44 := Lib.hid (hHeld.up hB)
    have Fh44 := Lib.hid h
    clear h hB hs
    refine hK.out _ _ HS44.out (fun hHeld => ?_)
    clear hK K
    try simp only [Act.put, List.setIfInBounds_toArray, List.set_cons_zero, List.set_cons_succ]
    refine wpAnyH_ready (rs := [5, 12]) (by kernel_rfl) (by simp) ?_
    refine AllReadyH.cons rfl (fun K hK => ?_) (AllReadyH.cons rfl (fun K hK => ?_) AllReadyH.nil)
    · go_simp
      go_at_call 31
      refine (HL.out _ p hHeld.zn).mono ?_
      rintro e y45 ⟨rfl, hB⟩
      have HS45 := Lib.hid (hHeld.up hB)
      have Fh45 := Lib.hid (Fh44.out.up hB)
      clear hB
      refine hK.out _ _ HS45.out (fun hHeld => ?_)
      clear hK K
      try simp only [Act.put, List.setIfInBounds_toArray, List.set_cons_zero, List.set_cons_succ]
      refine wpAnyH_ready (rs := [11, 12]) (by kernel_rfl) (by simp) ?_
      refine AllReadyH.cons rfl (fun K hK => ?_) (AllReadyH.cons rfl (fun K hK => ?_) AllReadyH.nil)
      · go_simp
        go_at_call 31
        refine (HH.out _ p hHeld.zn).mono ?_
        rintro e y46 ⟨rfl, hB⟩
        have HS46 := Lib.hid (hHeld.up hB)
        have Fh46 := Lib.hid (Fh45.out.up hB)
        clear hB
        refine hK.out _ _ HS46.out (fun hHeld => ?_)
        clear hK K
        try simp only [Act.put, List.setIfInBounds_toArray, List.set_cons_zero, List.set_cons_succ]
        refine wpAnyH_ready (rs := [12]) (by kernel_rfl) (by simp) ?_
        refine AllReadyH.cons rfl (fun K hK => ?_) AllReadyH.nil
        · refine step_alloc_seg (by rfl) 77 rfl 2 _ zeroBnd ?_
          intro y47 h hB hs
          have Nl := Lib.hid hHeld.ne
          have HS47 := Lib.hid (hHeld.up hB)
          have NE := Lib.hid (Nat.ne_of_lt Fh46.out.lt)
          have Fh47 := Lib.hid (Fh46.out.up hB)
          have Fl47 := Lib.hid h
          clear h hB hs
          refine hK.out _ _ HS47.out (fun hHeld => ?_)
          clear hK K
          try simp only [Act.put, List.setIfInBounds_toArray, List.set_cons_zero, List.set_cons_succ]
          refine wpAnyH_ready (rs := [14]) (by kernel_rfl) (by simp) ?_
          refine AllReadyH.cons rfl (fun K hK => ?_) AllReadyH.nil
          · refine step_store_seg (by rfl) 77 _ _ rfl _ 0 77 2 2 _ (bn2 a) rfl (congrArg Value.agg (bn2_arr a)) Fl47.out (by omega) sizeBnd (bn2_one a) ?_
            intro y48 h hT hs
            have HS48 := Lib.hid (hHeld.touch hT Nl.out)
            have Fh48 := Lib.hid (Fh47.out.touch hT (by first | exact NE.out | exact Ne.symm NE.out))
            have Fl48 := Lib.hid (h.congr (f' := bn2 a) fun q hq => by unfold updR; rw [if_pos (by omega), Nat.sub_zero])
            clear h hT hs
            refine hK.out _ _ HS48.out (fun hHeld => ?_)
            clear hK K
            try simp only [Act.put, List.setIfInBounds_toArray, List.set_cons_zero, List.set_cons_succ]
            refine wpAnyH_ready (rs := [15]) (by kernel_rfl) (by simp) ?_
            refine AllReadyH.cons rfl (fun K hK => ?_) AllReadyH.nil
            · refine step_store_seg (by rfl) 77 _ _ rfl _ 0 77 2 2 _ (bn2 c) rfl (congrArg Value.agg (bn2_arr c)) Fh48.out (by omega) sizeBnd (bn2_one c) ?_
              intro y49 h hT hs
              have HS49 := Lib.hid (hHeld.touch hT Nh.out)
              have Fl49 := Lib.hid (Fl48.out.touch hT (by first | exact NE.out | exact Ne.symm NE.out))
              have Fh49 := Lib.hid (h.congr (f' := bn2 c) fun q hq => by unfold updR; rw [if_pos (by omega), Nat.sub_zero])
              clear h hT hs
              refine hK.out _ _ HS49.out (fun hHeld => ?_)
              clear hK K
              try simp only [Act.put, List.setIfInBounds_toArray, List.set_cons_zero, List.set_cons_succ]
              refine wpAnyH_done (by kernel_rfl) ?_ _
              clear hHeld
              have x0 := Fl49.out.cell 0 (by decide)
              have x1 := Fl49.out.cell 1 (by decide)
              have z0 := Fh49.out.cell 0 (by decide)
              have z1 := Fh49.out.cell 1 (by decide)
              change _ = some (Value.bool true) at x0
              change _ = some (Value.int .i64 a) at x1
              change _ = some (Value.bool true) at z0
              change _ = some (Value.int .i64 c) at z1
              have HQ9 := Lib.hid HS49.out
              go_wp2_with (refine wpList_store_seg rfl 74 _ _ rfl b4 0 74 4 4 _ (fun k => if k = 0 then .int .i64 (-a) else if k = 1 then .int .i64 c else .bool false) rfl rfl HQ9.out.an (by omega) sizeSpn (fun q _ => by show (if q = 0 then Value.int .i64 (-a) else if q = 1 then .int .i64 c else .bool false).oneCell' = true; split; rfl; split <;> rfl) ?_; intro w9 h9 hT9 hs9)
              refine bodyPost_ret (result_seg rfl _ _ b4 _ 4 _ _ rfl h9 Try.underlying74 rfl sizeSpn) rfl ⟨rfl, HQ9.out.bl.trans (hT9.below HB4.out HQ9.out.sz)⟩
      · refine step_alloc_seg (by rfl) 77 rfl 2 _ zeroBnd ?_
        intro y50 h hB hs
        have Nl := Lib.hid hHeld.ne
        have HS50 := Lib.hid (hHeld.up hB)
        have NE := Lib.hid (Nat.ne_of_lt Fh45.out.lt)
        have Fh50 := Lib.hid (Fh45.out.up hB)
        have Fl50 := Lib.hid h
        clear h hB hs
        refine hK.out _ _ HS50.out (fun hHeld => ?_)
        clear hK K
        try simp only [Act.put, List.setIfInBounds_toArray, List.set_cons_zero, List.set_cons_succ]
        refine wpAnyH_ready (rs := [11]) (by kernel_rfl) (by simp) ?_
        refine AllReadyH.cons rfl (fun K hK => ?_) AllReadyH.nil
        · go_simp
          go_at_call 31
          refine (HH.out _ p hHeld.zn).mono ?_
          rintro e y51 ⟨rfl, hB⟩
          have HS51 := Lib.hid (hHeld.up hB)
          have Fh51 := Lib.hid (Fh50.out.up hB)
          have Fl51 := Lib.hid (Fl50.out.up hB)
          clear hB
          refine hK.out _ _ HS51.out (fun hHeld => ?_)
          clear hK K
          try simp only [Act.put, List.setIfInBounds_toArray, List.set_cons_zero, List.set_cons_succ]
          refine wpAnyH_ready (rs := [14]) (by kernel_rfl) (by simp) ?_
          refine AllReadyH.cons rfl (fun K hK => ?_) AllReadyH.nil
          · refine step_store_seg (by rfl) 77 _ _ rfl _ 0 77 2 2 _ (bn2 a) rfl (congrArg Value.agg (bn2_arr a)) Fl51.out (by omega) sizeBnd (bn2_one a) ?_
            intro y52 h hT hs
            have HS52 := Lib.hid (hHeld.touch hT Nl.out)
            have Fh52 := Lib.hid (Fh51.out.touch hT (by first | exact NE.out | exact Ne.symm NE.out))
            have Fl52 := Lib.hid (h.congr (f' := bn2 a) fun q hq => by unfold updR; rw [if_pos (by omega), Nat.sub_zero])
            clear h hT hs
            refine hK.out _ _ HS52.out (fun hHeld => ?_)
            clear hK K
            try simp only [Act.put, List.setIfInBounds_toArray, List.set_cons_zero, List.set_cons_succ]
            refine wpAnyH_ready (rs := [15]) (by kernel_rfl) (by simp) ?_
            refine AllReadyH.cons rfl (fun K hK => ?_) AllReadyH.nil
            · refine step_store_seg (by rfl) 77 _ _ rfl _ 0 77 2 2 _ (bn2 c) rfl (congrArg Value.agg (bn2_arr c)) Fh52.out (by omega) sizeBnd (bn2_one c) ?_
              intro y53 h hT hs
              have HS53 := Lib.hid (hHeld.touch hT Nh.out)
              have Fl53 := Lib.hid (Fl52.out.touch hT (by first | exact NE.out | exact Ne.symm NE.out))
              have Fh53 := Lib.hid (h.congr (f' := bn2 c) fun q hq => by unfold updR; rw [if_pos (by omega), Nat.sub_zero])
              clear h hT hs
              refine hK.out _ _ HS53.out (fun hHeld => ?_)
              clear hK K
              try simp only [Act.put, List.setIfInBounds_toArray, List.set_cons_zero, List.set_cons_succ]
              refine wpAnyH_done (by kernel_rfl) ?_ _
              clear hHeld
              have x0 := Fl53.out.cell 0 (by decide)
              have x1 := Fl53.out.cell 1 (by decide)
              have z0 := Fh53.out.cell 0 (by decide)
              have z1 := Fh53.out.cell 1 (by decide)
              change _ = some (Value.bool true) at x0
              change _ = some (Value.int .i64 a) at x1
              change _ = some (Value.bool true) at z0
              change _ = some (Value.int .i64 c) at z1
              have HQ9 := Lib.hid HS53.out
              go_wp2_with (refine wpList_store_seg rfl 74 _ _ rfl b4 0 74 4 4 _ (fun k => if k = 0 then .int .i64 (-a) else if k = 1 then .int .i64 c else .bool false) rfl rfl HQ9.out.an (by omega) sizeSpn (fun q _ => by show (if q = 0 then Value.int .i64 (-a) else if q = 1 then .int .i64 c else .bool false).oneCell' = true; split; rfl; split <;> rfl) ?_; intro w9 h9 hT9 hs9)
              refine bodyPost_ret (result_seg rfl _ _ b4 _ 4 _ _ rfl h9 Try.underlying74 rfl sizeSpn) rfl ⟨rfl, HQ9.out.bl.trans (hT9.below HB4.out HQ9.out.sz)⟩
    · refine step_alloc_seg (by rfl) 77 rfl 2 _ zeroBnd ?_
      intro y54 h hB hs
      have Nl := Lib.hid hHeld.ne
      have HS54 := Lib.hid (hHeld.up hB)
      have NE := Lib.hid (Nat.ne_of_lt Fh44.out.lt)
      have Fh54 := Lib.hid (Fh44.out.up hB)
      have Fl54 := Lib.hid h
      clear h hB hs
      refine hK.out _ _ HS54.out (fun hHeld => ?_)
      clear hK K
      try simp only [Act.put, List.setIfInBounds_toArray, List.set_cons_zero, List.set_cons_succ]
      refine wpAnyH_ready (rs := [5]) (by kernel_rfl) (by simp) ?_
      refine AllReadyH.cons rfl (fun K hK => ?_) AllReadyH.nil
      · go_simp
        go_at_call 31
        refine (HL.out _ p hHeld.zn).mono ?_
        rintro e y55 ⟨rfl, hB⟩
        have HS55 := Lib.hid (hHeld.up hB)
        have Fh55 := Lib.hid (Fh54.out.up hB)
        have Fl55 := Lib.hid (Fl54.out.up hB)
        clear hB
        refine hK.out _ _ HS55.out (fun hHeld => ?_)
        clear hK K
        try simp only [Act.put, List.setIfInBounds_toArray, List.set_cons_zero, List.set_cons_succ]
        refine wpAnyH_ready (rs := [11]) (by kernel_rfl) (by simp) ?_
        refine AllReadyH.cons rfl (fun K hK => ?_) AllReadyH.nil
        · go_simp
          go_at_call 31
          refine (HH.out _ p hHeld.zn).mono ?_
          rintro e y56 ⟨rfl, hB⟩
          have HS56 := Lib.hid (hHeld.up hB)
          have Fh56 := Lib.hid (Fh55.out.up hB)
          have Fl56 := Lib.hid (Fl55.out.up hB)
          clear hB
          refine hK.out _ _ HS56.out (fun hHeld => ?_)
          clear hK K
          try simp only [Act.put, List.setIfInBounds_toArray, List.set_cons_zero, List.set_cons_succ]
          refine wpAnyH_ready (rs := [14]) (by kernel_rfl) (by simp) ?_
          refine AllReadyH.cons rfl (fun K hK => ?_) AllReadyH.nil
          · refine step_store_seg (by rfl) 77 _ _ rfl _ 0 77 2 2 _ (bn2 a) rfl (congrArg Value.agg (bn2_arr a)) Fl56.out (by omega) sizeBnd (bn2_one a) ?_
            intro y57 h hT hs
            have HS57 := Lib.hid (hHeld.touch hT Nl.out)
            have Fh57 := Lib.hid (Fh56.out.touch hT (by first | exact NE.out | exact Ne.symm NE.out))
            have Fl57 := Lib.hid (h.congr (f' := bn2 a) fun q hq => by unfold updR; rw [if_pos (by omega), Nat.sub_zero])
            clear h hT hs
            refine hK.out _ _ HS57.out (fun hHeld => ?_)
            clear hK K
            try simp only [Act.put, List.setIfInBounds_toArray, List.set_cons_zero, List.set_cons_succ]
            refine wpAnyH_ready (rs := [15]) (by kernel_rfl) (by simp) ?_
            refine AllReadyH.cons rfl (fun K hK => ?_) AllReadyH.nil
            · refine step_store_seg (by rfl) 77 _ _ rfl _ 0 77 2 2 _ (bn2 c) rfl (congrArg Value.agg (bn2_arr c)) Fh57.out (by omega) sizeBnd (bn2_one c) ?_
              intro y58 h hT hs
              have HS58 := Lib.hid (hHeld.touch hT Nh.out)
              have Fl58 := Lib.hid (Fl57.out.touch hT (by first | exact NE.out | exact Ne.symm NE.out))
              have Fh58 := Lib.hid (h.congr (f' := bn2 c) fun q hq => by unfold updR; rw [if_pos (by omega), Nat.sub_zero])
              clear h hT hs
              refine hK.out _ _ HS58.out (fun hHeld => ?_)
              clear hK K
              try simp only [Act.put, List.setIfInBounds_toArray, List.set_cons_zero, List.set_cons_succ]
              refine wpAnyH_done (by kernel_rfl) ?_ _
              clear hHeld
              have x0 := Fl58.out.cell 0 (by decide)
              have x1 := Fl58.out.cell 1 (by decide)
              have z0 := Fh58.out.cell 0 (by decide)
              have z1 := Fh58.out.cell 1 (by decide)
              change _ = some (Value.bool true) at x0
              change _ = some (Value.int .i64 a) at x1
              change _ = some (Value.bool true) at z0
              change _ = some (Value.int .i64 c) at z1
              have HQ9 := Lib.hid HS58.out
              go_wp2_with (refine wpList_store_seg rfl 74 _ _ rfl b4 0 74 4 4 _ (fun k => if k = 0 then .int .i64 (-a) else if k = 1 then .int .i64 c else .bool false) rfl rfl HQ9.out.an (by omega) sizeSpn (fun q _ => by show (if q = 0 then Value.int .i64 (-a) else if q = 1 then .int .i64 c else .bool false).oneCell' = true; split; rfl; split <;> rfl) ?_; intro w9 h9 hT9 hs9)
              refine bodyPost_ret (result_seg rfl _ _ b4 _ 4 _ _ rfl h9 Try.underlying74 rfl sizeSpn) rfl ⟨rfl, HQ9.out.bl.trans (hT9.below HB4.out HQ9.out.sz)⟩
end Go.Proofs.Ytejcijbohnlbgaa
