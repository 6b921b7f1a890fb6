/- Package pack: PackPrograms's walk. Laid by wip/tools/mkpkqc.py. -/
import Derived.Test.YtlodoinmippebaaDoorPkQb
import Derived.Test.YtlodoinmippebaaDoorPkQa
import Derived.Deep.DeepCutAuto
namespace Go.Proofs.YtlodoinmippebaaDoor.Pak
open Go.ChangeShapes Go.WideShapes Go.ChangeAt Go.RowKit
open Cod Ln
set_option linter.unusedVariables false
set_option linter.unusedSimpArgs false
set_option maxRecDepth 100000
theorem lent_touch {w w' : World} {g r x : Nat} {L D : List Int} {cs : Array Value} (h : Lent w g r L D) (ht : Touch x w w') (hx : Blk w x 25 cs) : Lent w' g r L D :=
  ⟨h.1, (ht.block r h.2.1.lt (blk_ne h.2.1 hx (by decide))).trans h.2.1, (ht.block g h.2.2.lt (blk_ne h.2.2 hx (by decide))).trans h.2.2⟩
theorem room_keep2 {w w' : World} {g r g2 r2 : Nat} {R L D : List Int} (h : Room w g (some r) R) (hk : Keep2 g2 (some r2) w w') (h1 : g ≠ g2) (h2 : r ≠ r2) (hl : Lent w g2 r2 L D) : Room w' g (some r) R := by
  rcases h with ⟨h3, -, -⟩ | ⟨x, h3, h4, h5, h6⟩
  · cases h3
  · injection h3 with h3
    subst h3
    exact .inr ⟨r, rfl, h4, keep_blk hk h5 (blk_ne h5 hl.2.2 (by decide)) h2, keep_blk hk h6 h1 (blk_ne h6 hl.2.1 (by decide))⟩
theorem zeroLd : (Tryd.prog.info? 28).bind (fun i => i.zero.map Value.cells) = some (arr 1 (fun _ => .slice none 0 0)) := by kernel_rfl
theorem prog_uni {w w' : World} {k : Pk} {e : Ending} (hs : Small k) (h : ProgRes w w' (progG k) e) : ∃ pd pt pc, e = .returned (.tuple #[.agg (arr 5 (pkF (progG k).2.lo (progG k).2.hi pd pt pc)), .int .i64 (progG k).1.1, .int .i64 (progG k).1.2]) ∧ OwnPg w' w.heap.size pd pt pc (progG k).2 := by
  by_cases h0 : (progG k).1.2 = 0
  · obtain ⟨pd, pt, pc, he, h1, h2, h3⟩ := h.yes h0
    have h5 := (faithful (fun x hx => hs.bc x hx) h0).1
    exact ⟨pd, pt, pc, by rw [he, h5], h1, h2, h3⟩
  · have h5 := (prog_err (fun x hx => hs.bc x hx) h0).1
    refine ⟨.slice none 0 0, .slice none 0 0, .slice none 0 0, by rw [h.no h0, h5]; rfl, ?_⟩
    rw [h5]
    exact ⟨OwnB.nil _ _, OwnR.nil _ _ _ _ _, OwnR.nil _ _ _ _ _⟩
theorem OwnPg.kept {w w' : World} {g r base : Nat} {vd vt vc : Value} {q : Pg} (h : OwnPg w base vd vt vc q) (hk : Keep2 g (some r) w w') (h1 : g < base) (h3 : r < base) : OwnPg w' base vd vt vc q :=
  ⟨keep_rows hk h.data h1 h3, keep_rows hk h.tabs h1 h3, keep_rows hk h.code h1 h3⟩
structure PrS (w : World) (ga g3 g4 : Nat) (X : Nat → Value) (rb1 : Option Nat) (R1 : List Int) (rb2 : Option Nat) (R2 : List Int) (W : World) : Prop where
  below : Below w.heap.size w W
  box : FB W ga 25 5 X
  r1 : Room W g3 rb1 R1
  r2 : Room W g4 rb2 R2
  len : R1.length ≤ 1099511627776 ∧ R2.length ≤ 1099511627776
  ge1 : ∀ r, rb1 = some r → w.heap.size ≤ r
  ge2 : ∀ r, rb2 = some r → w.heap.size ≤ r
  ne : ∀ r, rb1 = some r → rb2 ≠ some r
/-- a container that was lent: its bytes out of two rooms -/
structure GvS (w : World) (k : Pk) (ga g3 g4 : Nat) (X : Nat → Value) (s6 : Value) (W : World) : Prop where
  ex : ∃ (g6 r1 r2 c1 c2 nd nc : Nat) (D1 D2 : List Int) (vt : Value), s6 = .pointer (some ⟨g6, 0, none⟩) ∧ FB W g6 25 5 (pkF k.lo k.hi (.slice (some ⟨r1, 0, none⟩) nd c1) vt (.slice (some ⟨r2, 0, none⟩) nc c2)) ∧
    Lent W g3 r1 k.data D1 ∧ Lent W g4 r2 k.code D2 ∧ Hid (k.data.length = nd ∧ k.code.length = nc) ∧ Hid (k.data.length + (k.data.length + 70) + D1.length = c1 ∧ k.code.length + (k.code.length + 70) + D2.length = c2) ∧ c1 ≤ 1099511627776 ∧ c2 ≤ 1099511627776 ∧
    OwnR 69 2 tabF W w.heap.size vt k.tabs ∧ w.heap.size ≤ r1 ∧ w.heap.size ≤ r2 ∧ r1 ≠ r2
  box : FB W ga 25 5 X
  below : Below w.heap.size w W
set_option maxHeartbeats 16000000 in
theorem packPrograms_any (w : World) (k : Pk) (vd vt vc : Value) (hp : PkAt w vd vt vc k) (hs : Small k) (hu : k.data.length ≤ 1048576 ∧ k.code.length ≤ 1048576) (ht : Tabs w) :
    Calls Tryd.prog 3 #[.agg (arr 5 (pkF k.lo k.hi vd vt vc))] w (RetB w (.bool true)) := by
  obtain ⟨⟨Ad, nd, cd, rfl, hD⟩, ⟨At, nt, ct, rfl, hT⟩, Ac, nc, cc, rfl, hC⟩ := hp
  have HP := Lib.hid (show PkAt w (.slice Ad nd cd) (.slice At nt ct) (.slice Ac nc cc) k from ⟨⟨_, _, _, rfl, hD⟩, ⟨_, _, _, rfl, hT⟩, _, _, _, rfl, hC⟩)
  have HD := Lib.hid hD
  have HTT := Lib.hid hT
  have HC := Lib.hid hC
  have HN := Lib.hid (show nd ≤ 1048576 ∧ nc ≤ 1048576 ∧ nt ≤ 8796093022208 from ⟨by have := hD.len.out; omega, by have := hC.len.out; omega, by have := hT.len.out; have := hs.tabs; omega⟩)
  obtain ⟨X, hX⟩ : ∃ X, X = pkF k.lo k.hi (.slice Ad nd cd) (.slice At nt ct) (.slice Ac nc cc) := ⟨_, rfl⟩
  rw [← hX]
  have HX := Lib.hid hX
  have HS := Lib.hid hs
  have HT := Lib.hid ht
  clear hX hD hT hC hs ht hu
  go_enter Tryd.func3, Tryd.ntmps3
  go_upto_region 1 with (refine wpList_box_seg rfl _ (.tmp 0) rfl 5 X rfl ?_; intro w1 h1 hB1 hs1; clear hs1)
  obtain ⟨ga, hga⟩ : ∃ g, g = w.heap.size := ⟨_, rfl⟩
  rw [← hga] at h1 ⊢
  have HB1 := Lib.hid hB1
  have HA1 := Lib.hid h1
  clear h1 hB1 hga
  go_upto_region 3 with (go_at_call 8; refine (awake_any w1).mono ?_; rintro e w3 ⟨rfl, hB3⟩)
  have HA3 := Lib.hid (HA1.out.up hB3)
  have HB3 := Lib.hid (HB1.out.trans (hB3.mono HB1.out.size))
  clear hB3 HA1 HB1
  go_upto_region 4 with (first
    | (refine wpList_alloc_seg (w := w3) rfl 28 rfl 1 (fun _ => .slice none 0 0) zeroLd ?_; intro w4 h4 hB4 hs4; clear hs4)
    | (refine wpList_alloc_seg rfl 28 rfl 1 (fun _ => .slice none 0 0) zeroLd ?_; intro w5 h5 hB5 hs5; clear hs5))
  obtain ⟨g3, hg3⟩ : ∃ g, g = w3.heap.size := ⟨_, rfl⟩
  obtain ⟨g4, hg4⟩ : ∃ g, g = w4.heap.size := ⟨_, rfl⟩
  rw [← hg3] at h4 ⊢
  rw [← hg4] at h5 ⊢
  have HG := Lib.hid (show w.heap.size ≤ g3 ∧ w.heap.size ≤ g4 ∧ g3 ≠ g4 from ⟨by have := HB3.out.size; omega, by have h1 := HB3.out.size; have h2 := hB4.size; omega, by have := h4.lt; omega⟩)
  have hb5 : Below w3.heap.size w3 w5 := hB4.trans (hB5.mono hB4.size)
  have HS5 := Lib.hid (show PrS w ga g3 g4 X none [] none [] w5 from ⟨HB3.out.trans (hb5.mono HB3.out.size), HA3.out.up hb5, .inl ⟨rfl, rfl, h4.up hB5⟩, .inl ⟨rfl, rfl, h5⟩, ⟨by simp, by simp⟩, (fun r h => by cases h), (fun r h => by cases h), (fun r h => by cases h)⟩)
  clear h4 hB4 h5 hB5 hb5 hg3 hg4 HA3 HB3
  go_wp2_with fail
  go_loopw [5, 8, 9, 11, 12] (fun a5 _ _ _ _ wr => ∃ (j : Nat) (rb1 : Option Nat) (R1 : List Int) (rb2 : Option Nat) (R2 : List Int), a5 = .int .i64 j ∧ j ≤ 2 ∧ Hid (PrS w ga g3 g4 X rb1 R1 rb2 R2 wr)) (fun a5 _ _ _ _ _ => (2 - intOf a5).toNat)
  case atStart => exact ⟨0, _, _, _, _, rfl, by decide, HS5⟩
  case round =>
    obtain ⟨j, rb1, R1, rb2, R2, rfl, hj, HR⟩ := hrel
    clear HS5
    by_cases hlt : j < 2
    case neg =>
      obtain rfl : j = 2 := by omega
      clear hlt hj
      go_wp2_with fail
      go_ret
      exact ⟨rfl, HR.out.below⟩
    have hlt' : (j : Int) < 2 := by omega
    go_upto_region 7 with fail
    have HX0 := Lib.hid (show X 0 = .int .i64 k.lo ∧ X 1 = .int .i64 k.hi ∧ X 2 = .slice Ad nd cd ∧ X 3 = .slice At nt ct ∧ X 4 = .slice Ac nc cc by rw [HX.out]; exact ⟨rfl, rfl, rfl, rfl, rfl⟩)
    go_cut [6] (fun s6 wx => ∃ W, W = wx ∧ GvS w k ga g3 g4 X s6 W)
    case first =>
      refine wp_region_held_drew (S := fun W => FB W ga 25 5 X) (by kernel_rfl) (HR.out.box.drewN 1) (fun hHeld => ?_)
      refine wpAnyH_take (i := 0) (oi := { dst := some 19, op := Op.fieldAddr 25 (Operand.tmp 1) 0, type := 0, pos := "law.go:90", after := #[], guard := none }) (v := .pointer (some ⟨ga, 0, none⟩)) rfl (by kernel_rfl) (by kernel_rfl) (by kernel_rfl) (fun _ _ _ h => h) (Or.inl ⟨by rfl, ?_⟩) (by assumption) ?_
      · intro w hSw
        go_simp
      try simp only [Act.put, List.setIfInBounds_toArray, List.set_cons_zero, List.set_cons_succ]
      refine wpAnyH_take (i := 1) (oi := { dst := some 20, op := Op.load 3 (Operand.tmp 19), type := 3, pos := "law.go:90", after := #[{ on := 0, ground := Ground.data }], guard := none }) (v := .int .i64 k.lo) rfl (by kernel_rfl) (by kernel_rfl) (by kernel_rfl) (fun _ _ _ h => h) (Or.inl ⟨by rfl, ?_⟩) (by assumption) ?_
      · intro w hSw
        have q0 : w.cell? ⟨ga, 0, none⟩ = some (.int .i64 k.lo) := by rw [hSw.cell 0 (by decide), HX0.out.1]
        go_simp
      try simp only [Act.put, List.setIfInBounds_toArray, List.set_cons_zero, List.set_cons_succ]
      refine wpAnyH_take (i := 2) (oi := { dst := some 21, op := Op.fieldAddr 25 (Operand.tmp 1) 1, type := 0, pos := "law.go:90", after := #[], guard := none }) (v := .pointer (some ⟨ga, 1, none⟩)) rfl (by kernel_rfl) (by kernel_rfl) (by kernel_rfl) (fun _ _ _ h => h) (Or.inl ⟨by rfl, ?_⟩) (by assumption) ?_
      · intro w hSw
        go_simp
      try simp only [Act.put, List.setIfInBounds_toArray, List.set_cons_zero, List.set_cons_succ]
      refine wpAnyH_take (i := 3) (oi := { dst := some 22, op := Op.load 3 (Operand.tmp 21), type := 3, pos := "law.go:90", after := #[{ on := 2, ground := Ground.data }], guard := none }) (v := .int .i64 k.hi) rfl (by kernel_rfl) (by kernel_rfl) (by kernel_rfl) (fun _ _ _ h => h) (Or.inl ⟨by rfl, ?_⟩) (by assumption) ?_
      · intro w hSw
        have q0 : w.cell? ⟨ga, 1, none⟩ = some (.int .i64 k.hi) := by rw [hSw.cell 1 (by decide), HX0.out.2.1]
        go_simp
      try simp only [Act.put, List.setIfInBounds_toArray, List.set_cons_zero, List.set_cons_succ]
      refine wpAnyH_take (i := 4) (oi := { dst := some 23, op := Op.fieldAddr 25 (Operand.tmp 1) 2, type := 0, pos := "law.go:90", after := #[], guard := none }) (v := .pointer (some ⟨ga, 2, none⟩)) rfl (by kernel_rfl) (by kernel_rfl) (by kernel_rfl) (fun _ _ _ h => h) (Or.inl ⟨by rfl, ?_⟩) (by assumption) ?_
      · intro w hSw
        go_simp
      try simp only [Act.put, List.setIfInBounds_toArray, List.set_cons_zero, List.set_cons_succ]
      refine wpAnyH_take (i := 5) (oi := { dst := some 24, op := Op.load 22 (Operand.tmp 23), type := 22, pos := "law.go:90", after := #[{ on := 4, ground := Ground.data }], guard := none }) (v := .slice Ad nd cd) rfl (by kernel_rfl) (by kernel_rfl) (by kernel_rfl) (fun _ _ _ h => h) (Or.inl ⟨by rfl, ?_⟩) (by assumption) ?_
      · intro w hSw
        have q0 : w.cell? ⟨ga, 2, none⟩ = some (.slice Ad nd cd) := by rw [hSw.cell 2 (by decide), HX0.out.2.2.1]
        go_simp
      try simp only [Act.put, List.setIfInBounds_toArray, List.set_cons_zero, List.set_cons_succ]
      refine wpAnyH_take (i := 7) (oi := { dst := some 26, op := Op.fieldAddr 25 (Operand.tmp 1) 3, type := 0, pos := "law.go:90", after := #[], guard := none }) (v := .pointer (some ⟨ga, 3, none⟩)) rfl (by kernel_rfl) (by kernel_rfl) (by kernel_rfl) (fun _ _ _ h => h) (Or.inl ⟨by rfl, ?_⟩) (by assumption) ?_
      · intro w hSw
        go_simp
      try simp only [Act.put, List.setIfInBounds_toArray, List.set_cons_zero, List.set_cons_succ]
      refine wpAnyH_take (i := 8) (oi := { dst := some 27, op := Op.load 23 (Operand.tmp 26), type := 23, pos := "law.go:90", after := #[{ on := 7, ground := Ground.data }], guard := none }) (v := .slice At nt ct) rfl (by kernel_rfl) (by kernel_rfl) (by kernel_rfl) (fun _ _ _ h => h) (Or.inl ⟨by rfl, ?_⟩) (by assumption) ?_
      · intro w hSw
        have q0 : w.cell? ⟨ga, 3, none⟩ = some (.slice At nt ct) := by rw [hSw.cell 3 (by decide), HX0.out.2.2.2.1]
        go_simp
      try simp only [Act.put, List.setIfInBounds_toArray, List.set_cons_zero, List.set_cons_succ]
      refine wpAnyH_take (i := 10) (oi := { dst := some 29, op := Op.fieldAddr 25 (Operand.tmp 1) 4, type := 0, pos := "law.go:90", after := #[], guard := none }) (v := .pointer (some ⟨ga, 4, none⟩)) rfl (by kernel_rfl) (by kernel_rfl) (by kernel_rfl) (fun _ _ _ h => h) (Or.inl ⟨by rfl, ?_⟩) (by assumption) ?_
      · intro w hSw
        go_simp
      try simp only [Act.put, List.setIfInBounds_toArray, List.set_cons_zero, List.set_cons_succ]
      refine wpAnyH_take (i := 11) (oi := { dst := some 30, op := Op.load 22 (Operand.tmp 29), type := 22, pos := "law.go:90", after := #[{ on := 10, ground := Ground.data }], guard := none }) (v := .slice Ac nc cc) rfl (by kernel_rfl) (by kernel_rfl) (by kernel_rfl) (fun _ _ _ h => h) (Or.inl ⟨by rfl, ?_⟩) (by assumption) ?_
      · intro w hSw
        have q0 : w.cell? ⟨ga, 4, none⟩ = some (.slice Ac nc cc) := by rw [hSw.cell 4 (by decide), HX0.out.2.2.2.2]
        go_simp
      try simp only [Act.put, List.setIfInBounds_toArray, List.set_cons_zero, List.set_cons_succ]
      obtain ⟨wd, hwd⟩ : ∃ u, u = wr.drew := ⟨_, rfl⟩
      rw [← hwd] at hHeld ⊢
      have HBd := Lib.hid (show Below w.heap.size w wd by rw [hwd]; exact below_drewN HR.out.below 1)
      have HSd := Lib.hid hHeld
      have HL1d := Lib.hid (show Room wd g3 rb1 R1 by rw [hwd]; exact Room.up HR.out.r1 (below_drewN (Below.refl _ _) 1))
      have HL2d := Lib.hid (show Room wd g4 rb2 R2 by rw [hwd]; exact Room.up HR.out.r2 (below_drewN (Below.refl _ _) 1))
      clear hHeld hwd
      refine wpAnyH_ready (rs := [6, 14]) (by kernel_rfl) (by simp) ?_
      refine AllReadyH.cons (o := { dst := some 25, op := Op.call { callee := Callee.value (Operand.func 9), args := #[Operand.tmp 3, Operand.tmp 24], argTypes := #[28, 22] }, type := 22, pos := "law.go:90", after := #[{ on := 5, ground := Ground.data }], guard := none }) rfl ?_ ?_
      rotate_left
      refine AllReadyH.cons (o := { dst := some 6, op := Op.alloc 25, type := 0, pos := "law.go:90", after := #[], guard := none }) rfl ?_ ?_
      rotate_left
      · exact AllReadyH.nil
      · intro K hK
        go_simp
        go_at_call 9
        refine (Ln.lend_any wd g3 rb1 R1 HL1d.out Ad nd cd k.data HD.out.len.out HN.out.1 HR.out.len.1 (HD.out.up HBd.out).byt (fun _ b off e => ?_) w.heap.size HG.out.1 HR.out.ge1).mono ?_
        · have h1 := HD.out.lt b off e
          have h2 := HG.out
          omega
        rintro e wda ⟨r1, D1, rfl, hL, hor, hmm, hk, hB⟩
        have HKda := Lib.hid (show LendK wd g3 r1 rb1 wda from ⟨hk, hor, room_old HL1d.out, Room.blk HL1d.out⟩)
        have HM1 := Lib.hid (show w.heap.size ≤ r1 ∧ k.data.length + (k.data.length + 70) + D1.length ≤ 1099511627776 from ⟨by rcases hor with h1 | h1; exact HR.out.ge1 r1 h1.symm; rw [h1]; exact HBd.out.size, hmm⟩)
        have HSda := Lib.hid (show FB wda ga 25 5 X from HKda.out.blk HSd.out (by decide) (by obtain ⟨cs, h1⟩ := Room.blk HL1d.out; exact blk_ne HSd.out h1 (by decide)))
        have HBda := Lib.hid (HBd.out.trans hB)
        have HL2da := Lib.hid (HKda.out.otherRoom HL2d.out (fun e => HG.out.2.2 e.symm) (fun x hx e => HR.out.ne x e hx))
        have HL1da := Lib.hid hL
        have HNE1 := Lib.hid (show ∀ x, rb2 = some x → r1 ≠ x from fun x hx e => by
          subst e
          rcases hor with h1 | h1
          · exact HR.out.ne r1 h1.symm hx
          · obtain ⟨cs, h2⟩ := room_old HL2d.out r1 hx
            have := h2.lt
            omega)
        clear hL hor hmm hk hB
        obtain ⟨c1, hc1⟩ : ∃ c, c = k.data.length + (k.data.length + 70) + D1.length := ⟨_, rfl⟩
        rw [← hc1, HD.out.len.out]
        have HC1 := Lib.hid hc1
        clear hc1
        go_simp
        refine hK.out _ _ HSda.out (fun hHeld => ?_)
        clear hK K hHeld
        try simp only [Act.put, List.setIfInBounds_toArray, List.set_cons_zero, List.set_cons_succ]
        refine wpAnyH_ready (rs := [9, 14]) (by kernel_rfl) (by simp) ?_
        refine AllReadyH.cons (o := { dst := some 28, op := Op.call { callee := Callee.value (Operand.func 10), args := #[Operand.tmp 27], argTypes := #[23] }, type := 23, pos := "law.go:90", after := #[{ on := 8, ground := Ground.data }, { on := 6, ground := Ground.chain }], guard := none }) rfl ?_ ?_
        rotate_left
        refine AllReadyH.cons (o := { dst := some 6, op := Op.alloc 25, type := 0, pos := "law.go:90", after := #[], guard := none }) rfl ?_ ?_
        rotate_left
        · exact AllReadyH.nil
        · intro K hK
          go_simp
          go_at_call 10
          refine (copyTables_own wda At nt ct k.tabs (HTT.out.up HBda.out) HN.out.2.2).mono ?_
          rintro e wdab ⟨v9, rfl, hO, hB⟩
          have HO9dab := Lib.hid (ownR_base (base' := w.heap.size) hO HBda.out.size)
          clear hO
          obtain ⟨A9, n9, c9, rfl, -⟩ := OwnR.form HO9dab.out
          have HSdab := Lib.hid (HSda.out.up hB)
          have HBdab := Lib.hid (HBda.out.trans (hB.mono HBda.out.size))
          have HL1dab := Lib.hid (Lent.up HL1da.out hB)
          have HL2dab := Lib.hid (Room.up HL2da.out hB)
          clear hB
          go_simp
          refine hK.out _ _ HSdab.out (fun hHeld => ?_)
          clear hK K hHeld
          try simp only [Act.put, List.setIfInBounds_toArray, List.set_cons_zero, List.set_cons_succ]
          refine wpAnyH_ready (rs := [12, 14]) (by kernel_rfl) (by simp) ?_
          refine AllReadyH.cons (o := { dst := some 31, op := Op.call { callee := Callee.value (Operand.func 9), args := #[Operand.tmp 4, Operand.tmp 30], argTypes := #[28, 22] }, type := 22, pos := "law.go:90", after := #[{ on := 11, ground := Ground.data }, { on := 9, ground := Ground.chain }], guard := none }) rfl ?_ ?_
          rotate_left
          refine AllReadyH.cons (o := { dst := some 6, op := Op.alloc 25, type := 0, pos := "law.go:90", after := #[], guard := none }) rfl ?_ ?_
          rotate_left
          · exact AllReadyH.nil
          · intro K hK
            go_simp
            go_at_call 9
            refine (Ln.lend_any wdab g4 rb2 R2 HL2dab.out Ac nc cc k.code HC.out.len.out HN.out.2.1 HR.out.len.2 (HC.out.up HBdab.out).byt (fun _ b off e => ?_) w.heap.size HG.out.2.1 HR.out.ge2).mono ?_
            · have h1 := HC.out.lt b off e
              have h2 := HG.out
              omega
            rintro e wdabc ⟨r2, D2, rfl, hL, hor, hmm, hk, hB⟩
            have HKdabc := Lib.hid (show LendK wdab g4 r2 rb2 wdabc from ⟨hk, hor, room_old HL2dab.out, Room.blk HL2dab.out⟩)
            have HM2 := Lib.hid (show w.heap.size ≤ r2 ∧ k.code.length + (k.code.length + 70) + D2.length ≤ 1099511627776 from ⟨by rcases hor with h1 | h1; exact HR.out.ge2 r2 h1.symm; rw [h1]; exact HBdab.out.size, hmm⟩)
            have HSdabc := Lib.hid (show FB wdabc ga 25 5 X from HKdabc.out.blk HSdab.out (by decide) (by obtain ⟨cs, h1⟩ := Room.blk HL2dab.out; exact blk_ne HSdab.out h1 (by decide)))
            have HBdabc := Lib.hid (HBdab.out.trans hB)
            have HNE2 := Lib.hid (show r1 ≠ r2 from fun e => by
              rcases hor with h1 | h1
              · exact HNE1.out r2 h1.symm e
              · have := HL1dab.out.2.1.lt
                omega)
            have HL1dabc := Lib.hid (HKdabc.out.otherLent HL1dab.out HG.out.2.2 (fun e => HNE1.out r1 e rfl))
            have HL2dabc := Lib.hid hL
            have HO9dabc := Lib.hid (show OwnR 69 2 tabF wdabc w.heap.size (.slice A9 n9 c9) k.tabs from HKdabc.out.rows HO9dab.out (by decide) (by decide))
            clear hL hor hmm hk hB
            obtain ⟨c2, hc2⟩ : ∃ c, c = k.code.length + (k.code.length + 70) + D2.length := ⟨_, rfl⟩
            rw [← hc2, HC.out.len.out]
            have HC2 := Lib.hid hc2
            clear hc2
            go_simp
            refine hK.out _ _ HSdabc.out (fun hHeld => ?_)
            clear hK K hHeld
            try simp only [Act.put, List.setIfInBounds_toArray, List.set_cons_zero, List.set_cons_succ]
            have hHeld := HSdabc.out
            refine wpAnyH_take (i := 13) (oi := { dst := some 32, op := Op.build 25 #[(0, Operand.tmp 20), (1, Operand.tmp 22), (2, Operand.tmp 25), (3, Operand.tmp 28), (4, Operand.tmp 31)], type := 25, pos := "law.go:90", after := #[{ on := 1, ground := Ground.data }, { on := 3, ground := Ground.data }, { on := 6, ground := Ground.data }, { on := 9, ground := Ground.data }, { on := 12, ground := Ground.data }], guard := none }) (v := .agg #[.int .i64 k.lo, .int .i64 k.hi, .slice (some ⟨r1, 0, none⟩) nd c1, .slice A9 n9 c9, .slice (some ⟨r2, 0, none⟩) nc c2]) rfl (by kernel_rfl) (by kernel_rfl) (by kernel_rfl) (fun _ _ _ h => h) (Or.inl ⟨by rfl, ?_⟩) (by assumption) ?_
            · intro w hSw
              go_simp
            try simp only [Act.put, List.setIfInBounds_toArray, List.set_cons_zero, List.set_cons_succ]
            clear hHeld
            refine wpAnyH_ready (rs := [14]) (by kernel_rfl) (by simp) ?_
            refine AllReadyH.cons (o := { dst := some 6, op := Op.alloc 25, type := 0, pos := "law.go:90", after := #[], guard := none }) rfl ?_ ?_
            rotate_left
            · exact AllReadyH.nil
            intro K hK
            refine step_alloc_seg (by rfl) 25 rfl 5 zeroPkF zeroPk ?_
            intro wdabce hC hB hs
            obtain ⟨g6, hg6⟩ : ∃ g, g = wdabc.heap.size := ⟨_, rfl⟩
            have HN6 := Lib.hid (show w.heap.size ≤ g6 ∧ ga ≠ g6 from ⟨by have := HBdabc.out.size; omega, by have := HSdabc.out.lt; omega⟩)
            rw [← hg6] at hC ⊢
            have HG6dabce := Lib.hid hC
            clear hs hg6 hC
            have HSdabce := Lib.hid (HSdabc.out.up hB)
            have HBdabce := Lib.hid (HBdabc.out.trans (hB.mono HBdabc.out.size))
            have HL1dabce := Lib.hid (Lent.up HL1dabc.out hB)
            have HL2dabce := Lib.hid (Lent.up HL2dabc.out hB)
            have HO9dabce := Lib.hid (HO9dabc.out.up hB)
            clear hB
            refine hK.out _ _ HSdabce.out (fun hHeld => ?_)
            clear hK K hHeld
            try simp only [Act.put, List.setIfInBounds_toArray, List.set_cons_zero, List.set_cons_succ]
            refine wpAnyH_ready (rs := [15]) (by kernel_rfl) (by simp) ?_
            refine AllReadyH.cons (o := { dst := none, op := Op.store 25 (Operand.tmp 6) (Operand.tmp 32), type := 0, pos := "law.go:90", after := #[{ on := 14, ground := Ground.data }, { on := 13, ground := Ground.data }, { on := 12, ground := Ground.chain }, { on := 0, ground := Ground.phase }, { on := 1, ground := Ground.phase }, { on := 2, ground := Ground.phase }, { on := 3, ground := Ground.phase }, { on := 4, ground := Ground.phase }, { on := 5, ground := Ground.phase }, { on := 6, ground := Ground.phase }, { on := 7, ground := Ground.phase }, { on := 8, ground := Ground.phase }, { on := 9, ground := Ground.phase }, { on := 10, ground := Ground.phase }, { on := 11, ground := Ground.phase }, { on := 12, ground := Ground.phase }, { on := 13, ground := Ground.phase }, { on := 14, ground := Ground.phase }], guard := none }) rfl ?_ ?_
            rotate_left
            · exact AllReadyH.nil
            intro K hK
            refine step_store_seg (by rfl) 25 _ _ rfl g6 0 25 5 5 zeroPkF (pkF k.lo k.hi (.slice (some ⟨r1, 0, none⟩) nd c1) (.slice A9 n9 c9) (.slice (some ⟨r2, 0, none⟩) nc c2)) rfl rfl HG6dabce.out (by omega) sizePk (pkF_one rfl rfl rfl) ?_
            intro wz hz hTz hsz
            have Hz := Lib.hid (show FB wz g6 25 5 (pkF k.lo k.hi (.slice (some ⟨r1, 0, none⟩) nd c1) (.slice A9 n9 c9) (.slice (some ⟨r2, 0, none⟩) nc c2)) from hz.congr fun q hq => by unfold updR; rw [if_pos (by omega), Nat.sub_zero])
            have HSz := Lib.hid (show FB wz ga 25 5 X from HSdabce.out.touch hTz HN6.out.2)
            have HL1z := Lib.hid (show Lent wz g3 r1 k.data D1 from lent_touch HL1dabce.out hTz HG6dabce.out)
            have HL2z := Lib.hid (show Lent wz g4 r2 k.code D2 from lent_touch HL2dabce.out hTz HG6dabce.out)
            have HO9z := Lib.hid (ownT_touch HO9dabce.out hTz HG6dabce.out (by decide))
            have HBz := Lib.hid (show Below w.heap.size w wz from HBdabce.out.trans (hTz.below HN6.out.1 HBdabce.out.size))
            clear hz hTz hsz
            refine hK.out _ _ HSz.out (fun hHeld => ?_)
            clear hK K
            try simp only [Act.put, List.setIfInBounds_toArray, List.set_cons_zero, List.set_cons_succ]
            clear hHeld
            refine wpAnyH_done (by kernel_rfl) ?_ _
            go_wp2_with fail
            go_meet
            case rel => exact ⟨_, rfl, ⟨g6, r1, r2, c1, c2, nd, nc, D1, D2, .slice A9 n9 c9, rfl, Hz.out, HL1z.out, HL2z.out, Lib.hid ⟨HD.out.len.out, HC.out.len.out⟩, Lib.hid ⟨HC1.out.symm, HC2.out.symm⟩, by rw [HC1.out]; exact HM1.out.2, by rw [HC2.out]; exact HM2.out.2, HO9z.out, HM1.out.1, HM2.out.1, HNE2.out⟩, HSz.out, HBz.out⟩
          · intro K hK
            refine step_alloc_seg (by rfl) 25 rfl 5 zeroPkF zeroPk ?_
            intro wdabe hC hB hs
            obtain ⟨g6, hg6⟩ : ∃ g, g = wdab.heap.size := ⟨_, rfl⟩
            have HN6 := Lib.hid (show w.heap.size ≤ g6 ∧ ga ≠ g6 from ⟨by have := HBdab.out.size; omega, by have := HSdab.out.lt; omega⟩)
            rw [← hg6] at hC ⊢
            have HG6dabe := Lib.hid hC
            clear hs hg6 hC
            have HSdabe := Lib.hid (HSdab.out.up hB)
            have HBdabe := Lib.hid (HBdab.out.trans (hB.mono HBdab.out.size))
            have HL1dabe := Lib.hid (Lent.up HL1dab.out hB)
            have HL2dabe := Lib.hid (Room.up HL2dab.out hB)
            have HO9dabe := Lib.hid (HO9dab.out.up hB)
            clear hB
            refine hK.out _ _ HSdabe.out (fun hHeld => ?_)
            clear hK K hHeld
            try simp only [Act.put, List.setIfInBounds_toArray, List.set_cons_zero, List.set_cons_succ]
            refine wpAnyH_ready (rs := [12]) (by kernel_rfl) (by simp) ?_
            refine AllReadyH.cons (o := { dst := some 31, op := Op.call { callee := Callee.value (Operand.func 9), args := #[Operand.tmp 4, Operand.tmp 30], argTypes := #[28, 22] }, type := 22, pos := "law.go:90", after := #[{ on := 11, ground := Ground.data }, { on := 9, ground := Ground.chain }], guard := none }) rfl ?_ ?_
            rotate_left
            · exact AllReadyH.nil
            intro K hK
            go_simp
            go_at_call 9
            refine (Ln.lend_any wdabe g4 rb2 R2 HL2dabe.out Ac nc cc k.code HC.out.len.out HN.out.2.1 HR.out.len.2 (HC.out.up HBdabe.out).byt (fun _ b off e => ?_) w.heap.size HG.out.2.1 HR.out.ge2).mono ?_
            · have h1 := HC.out.lt b off e
              have h2 := HG.out
              omega
            rintro e wdabec ⟨r2, D2, rfl, hL, hor, hmm, hk, hB⟩
            have HKdabec := Lib.hid (show LendK wdabe g4 r2 rb2 wdabec from ⟨hk, hor, room_old HL2dabe.out, Room.blk HL2dabe.out⟩)
            have HM2 := Lib.hid (show w.heap.size ≤ r2 ∧ k.code.length + (k.code.length + 70) + D2.length ≤ 1099511627776 from ⟨by rcases hor with h1 | h1; exact HR.out.ge2 r2 h1.symm; rw [h1]; exact HBdabe.out.size, hmm⟩)
            have HSdabec := Lib.hid (show FB wdabec ga 25 5 X from HKdabec.out.blk HSdabe.out (by decide) (by obtain ⟨cs, h1⟩ := Room.blk HL2dabe.out; exact blk_ne HSdabe.out h1 (by decide)))
            have HBdabec := Lib.hid (HBdabe.out.trans hB)
            have HNE2 := Lib.hid (show r1 ≠ r2 from fun e => by
              rcases hor with h1 | h1
              · exact HNE1.out r2 h1.symm e
              · have := HL1dabe.out.2.1.lt
                omega)
            have HL1dabec := Lib.hid (HKdabec.out.otherLent HL1dabe.out HG.out.2.2 (fun e => HNE1.out r1 e rfl))
            have HL2dabec := Lib.hid hL
            have HO9dabec := Lib.hid (show OwnR 69 2 tabF wdabec w.heap.size (.slice A9 n9 c9) k.tabs from HKdabec.out.rows HO9dabe.out (by decide) (by decide))
            have HG6dabec := Lib.hid (show FB wdabec g6 25 5 zeroPkF from HKdabec.out.blk HG6dabe.out (by decide) (by obtain ⟨cs, h1⟩ := HKdabec.out.own; exact blk_ne HG6dabe.out h1 (by decide)))
            clear hL hor hmm hk hB
            obtain ⟨c2, hc2⟩ : ∃ c, c = k.code.length + (k.code.length + 70) + D2.length := ⟨_, rfl⟩
            rw [← hc2, HC.out.len.out]
            have HC2 := Lib.hid hc2
            clear hc2
            go_simp
            refine hK.out _ _ HSdabec.out (fun hHeld => ?_)
            clear hK K hHeld
            try simp only [Act.put, List.setIfInBounds_toArray, List.set_cons_zero, List.set_cons_succ]
            have hHeld := HSdabec.out
            refine wpAnyH_take (i := 13) (oi := { dst := some 32, op := Op.build 25 #[(0, Operand.tmp 20), (1, Operand.tmp 22), (2, Operand.tmp 25), (3, Operand.tmp 28), (4, Operand.tmp 31)], type := 25, pos := "law.go:90", after := #[{ on := 1, ground := Ground.data }, { on := 3, ground := Ground.data }, { on := 6, ground := Ground.data }, { on := 9, ground := Ground.data }, { on := 12, ground := Ground.data }], guard := none }) (v := .agg #[.int .i64 k.lo, .int .i64 k.hi, .slice (some ⟨r1, 0, none⟩) nd c1, .slice A9 n9 c9, .slice (some ⟨r2, 0, none⟩) nc c2]) rfl (by kernel_rfl) (by kernel_rfl) (by kernel_rfl) (fun _ _ _ h => h) (Or.inl ⟨by rfl, ?_⟩) (by assumption) ?_
            · intro w hSw
              go_simp
            try simp only [Act.put, List.setIfInBounds_toArray, List.set_cons_zero, List.set_cons_succ]
            clear hHeld
            refine wpAnyH_ready (rs := [15]) (by kernel_rfl) (by simp) ?_
            refine AllReadyH.cons (o := { dst := none, op := Op.store 25 (Operand.tmp 6) (Operand.tmp 32), type := 0, pos := "law.go:90", after := #[{ on := 14, ground := Ground.data }, { on := 13, ground := Ground.data }, { on := 12, ground := Ground.chain }, { on := 0, ground := Ground.phase }, { on := 1, ground := Ground.phase }, { on := 2, ground := Ground.phase }, { on := 3, ground := Ground.phase }, { on := 4, ground := Ground.phase }, { on := 5, ground := Ground.phase }, { on := 6, ground := Ground.phase }, { on := 7, ground := Ground.phase }, { on := 8, ground := Ground.phase }, { on := 9, ground := Ground.phase }, { on := 10, ground := Ground.phase }, { on := 11, ground := Ground.phase }, { on := 12, ground := Ground.phase }, { on := 13, ground := Ground.phase }, { on := 14, ground := Ground.phase }], guard := none }) rfl ?_ ?_
            rotate_left
            · exact AllReadyH.nil
            intro K hK
            refine step_store_seg (by rfl) 25 _ _ rfl g6 0 25 5 5 zeroPkF (pkF k.lo k.hi (.slice (some ⟨r1, 0, none⟩) nd c1) (.slice A9 n9 c9) (.slice (some ⟨r2, 0, none⟩) nc c2)) rfl rfl HG6dabec.out (by omega) sizePk (pkF_one rfl rfl rfl) ?_
            intro wz hz hTz hsz
            have Hz := Lib.hid (show FB wz g6 25 5 (pkF k.lo k.hi (.slice (some ⟨r1, 0, none⟩) nd c1) (.slice A9 n9 c9) (.slice (some ⟨r2, 0, none⟩) nc c2)) from hz.congr fun q hq => by unfold updR; rw [if_pos (by omega), Nat.sub_zero])
            have HSz := Lib.hid (show FB wz ga 25 5 X from HSdabec.out.touch hTz HN6.out.2)
            have HL1z := Lib.hid (show Lent wz g3 r1 k.data D1 from lent_touch HL1dabec.out hTz HG6dabec.out)
            have HL2z := Lib.hid (show Lent wz g4 r2 k.code D2 from lent_touch HL2dabec.out hTz HG6dabec.out)
            have HO9z := Lib.hid (ownT_touch HO9dabec.out hTz HG6dabec.out (by decide))
            have HBz := Lib.hid (show Below w.heap.size w wz from HBdabec.out.trans (hTz.below HN6.out.1 HBdabec.out.size))
            clear hz hTz hsz
            refine hK.out _ _ HSz.out (fun hHeld => ?_)
            clear hK K
            try simp only [Act.put, List.setIfInBounds_toArray, List.set_cons_zero, List.set_cons_succ]
            clear hHeld
            refine wpAnyH_done (by kernel_rfl) ?_ _
            go_wp2_with fail
            go_meet
            case rel => exact ⟨_, rfl, ⟨g6, r1, r2, c1, c2, nd, nc, D1, D2, .slice A9 n9 c9, rfl, Hz.out, HL1z.out, HL2z.out, Lib.hid ⟨HD.out.len.out, HC.out.len.out⟩, Lib.hid ⟨HC1.out.symm, HC2.out.symm⟩, by rw [HC1.out]; exact HM1.out.2, by rw [HC2.out]; exact HM2.out.2, HO9z.out, HM1.out.1, HM2.out.1, HNE2.out⟩, HSz.out, HBz.out⟩
        · intro K hK
          refine step_alloc_seg (by rfl) 25 rfl 5 zeroPkF zeroPk ?_
          intro wdae hC hB hs
          obtain ⟨g6, hg6⟩ : ∃ g, g = wda.heap.size := ⟨_, rfl⟩
          have HN6 := Lib.hid (show w.heap.size ≤ g6 ∧ ga ≠ g6 from ⟨by have := HBda.out.size; omega, by have := HSda.out.lt; omega⟩)
          rw [← hg6] at hC ⊢
          have HG6dae := Lib.hid hC
          clear hs hg6 hC
          have HSdae := Lib.hid (HSda.out.up hB)
          have HBdae := Lib.hid (HBda.out.trans (hB.mono HBda.out.size))
          have HL1dae := Lib.hid (Lent.up HL1da.out hB)
          have HL2dae := Lib.hid (Room.up HL2da.out hB)
          clear hB
          refine hK.out _ _ HSdae.out (fun hHeld => ?_)
          clear hK K hHeld
          try simp only [Act.put, List.setIfInBounds_toArray, List.set_cons_zero, List.set_cons_succ]
          refine wpAnyH_ready (rs := [9]) (by kernel_rfl) (by simp) ?_
          refine AllReadyH.cons (o := { dst := some 28, op := Op.call { callee := Callee.value (Operand.func 10), args := #[Operand.tmp 27], argTypes := #[23] }, type := 23, pos := "law.go:90", after := #[{ on := 8, ground := Ground.data }, { on := 6, ground := Ground.chain }], guard := none }) rfl ?_ ?_
          rotate_left
          · exact AllReadyH.nil
          intro K hK
          go_simp
          go_at_call 10
          refine (copyTables_own wdae At nt ct k.tabs (HTT.out.up HBdae.out) HN.out.2.2).mono ?_
          rintro e wdaeb ⟨v9, rfl, hO, hB⟩
          have HO9daeb := Lib.hid (ownR_base (base' := w.heap.size) hO HBdae.out.size)
          clear hO
          obtain ⟨A9, n9, c9, rfl, -⟩ := OwnR.form HO9daeb.out
          have HSdaeb := Lib.hid (HSdae.out.up hB)
          have HBdaeb := Lib.hid (HBdae.out.trans (hB.mono HBdae.out.size))
          have HL1daeb := Lib.hid (Lent.up HL1dae.out hB)
          have HL2daeb := Lib.hid (Room.up HL2dae.out hB)
          have HG6daeb := Lib.hid (HG6dae.out.up hB)
          clear hB
          go_simp
          refine hK.out _ _ HSdaeb.out (fun hHeld => ?_)
          clear hK K hHeld
          try simp only [Act.put, List.setIfInBounds_toArray, List.set_cons_zero, List.set_cons_succ]
          refine wpAnyH_ready (rs := [12]) (by kernel_rfl) (by simp) ?_
          refine AllReadyH.cons (o := { dst := some 31, op := Op.call { callee := Callee.value (Operand.func 9), args := #[Operand.tmp 4, Operand.tmp 30], argTypes := #[28, 22] }, type := 22, pos := "law.go:90", after := #[{ on := 11, ground := Ground.data }, { on := 9, ground := Ground.chain }], guard := none }) rfl ?_ ?_
          rotate_left
          · exact AllReadyH.nil
          intro K hK
          go_simp
          go_at_call 9
          refine (Ln.lend_any wdaeb g4 rb2 R2 HL2daeb.out Ac nc cc k.code HC.out.len.out HN.out.2.1 HR.out.len.2 (HC.out.up HBdaeb.out).byt (fun _ b off e => ?_) w.heap.size HG.out.2.1 HR.out.ge2).mono ?_
          · have h1 := HC.out.lt b off e
            have h2 := HG.out
            omega
          rintro e wdaebc ⟨r2, D2, rfl, hL, hor, hmm, hk, hB⟩
          have HKdaebc := Lib.hid (show LendK wdaeb g4 r2 rb2 wdaebc from ⟨hk, hor, room_old HL2daeb.out, Room.blk HL2daeb.out⟩)
          have HM2 := Lib.hid (show w.heap.size ≤ r2 ∧ k.code.length + (k.code.length + 70) + D2.length ≤ 1099511627776 from ⟨by rcases hor with h1 | h1; exact HR.out.ge2 r2 h1.symm; rw [h1]; exact HBdaeb.out.size, hmm⟩)
          have HSdaebc := Lib.hid (show FB wdaebc ga 25 5 X from HKdaebc.out.blk HSdaeb.out (by decide) (by obtain ⟨cs, h1⟩ := Room.blk HL2daeb.out; exact blk_ne HSdaeb.out h1 (by decide)))
          have HBdaebc := Lib.hid (HBdaeb.out.trans hB)
          have HNE2 := Lib.hid (show r1 ≠ r2 from fun e => by
            rcases hor with h1 | h1
            · exact HNE1.out r2 h1.symm e
            · have := HL1daeb.out.2.1.lt
              omega)
          have HL1daebc := Lib.hid (HKdaebc.out.otherLent HL1daeb.out HG.out.2.2 (fun e => HNE1.out r1 e rfl))
          have HL2daebc := Lib.hid hL
          have HO9daebc := Lib.hid (show OwnR 69 2 tabF wdaebc w.heap.size (.slice A9 n9 c9) k.tabs from HKdaebc.out.rows HO9daeb.out (by decide) (by decide))
          have HG6daebc := Lib.hid (show FB wdaebc g6 25 5 zeroPkF from HKdaebc.out.blk HG6daeb.out (by decide) (by obtain ⟨cs, h1⟩ := HKdaebc.out.own; exact blk_ne HG6daeb.out h1 (by decide)))
          clear hL hor hmm hk hB
          obtain ⟨c2, hc2⟩ : ∃ c, c = k.code.length + (k.code.length + 70) + D2.length := ⟨_, rfl⟩
          rw [← hc2, HC.out.len.out]
          have HC2 := Lib.hid hc2
          clear hc2
          go_simp
          refine hK.out _ _ HSdaebc.out (fun hHeld => ?_)
          clear hK K hHeld
          try simp only [Act.put, List.setIfInBounds_toArray, List.set_cons_zero, List.set_cons_succ]
          have hHeld := HSdaebc.out
          refine wpAnyH_take (i := 13) (oi := { dst := some 32, op := Op.build 25 #[(0, Operand.tmp 20), (1, Operand.tmp 22), (2, Operand.tmp 25), (3, Operand.tmp 28), (4, Operand.tmp 31)], type := 25, pos := "law.go:90", after := #[{ on := 1, ground := Ground.data }, { on := 3, ground := Ground.data }, { on := 6, ground := Ground.data }, { on := 9, ground := Ground.data }, { on := 12, ground := Ground.data }], guard := none }) (v := .agg #[.int .i64 k.lo, .int .i64 k.hi, .slice (some ⟨r1, 0, none⟩) nd c1, .slice A9 n9 c9, .slice (some ⟨r2, 0, none⟩) nc c2]) rfl (by kernel_rfl) (by kernel_rfl) (by kernel_rfl) (fun _ _ _ h => h) (Or.inl ⟨by rfl, ?_⟩) (by assumption) ?_
          · intro w hSw
            go_simp
          try simp only [Act.put, List.setIfInBounds_toArray, List.set_cons_zero, List.set_cons_succ]
          clear hHeld
          refine wpAnyH_ready (rs := [15]) (by kernel_rfl) (by simp) ?_
          refine AllReadyH.cons (o := { dst := none, op := Op.store 25 (Operand.tmp 6) (Operand.tmp 32), type := 0, pos := "law.go:90", after := #[{ on := 14, ground := Ground.data }, { on := 13, ground := Ground.data }, { on := 12, ground := Ground.chain }, { on := 0, ground := Ground.phase }, { on := 1, ground := Ground.phase }, { on := 2, ground := Ground.phase }, { on := 3, ground := Ground.phase }, { on := 4, ground := Ground.phase }, { on := 5, ground := Ground.phase }, { on := 6, ground := Ground.phase }, { on := 7, ground := Ground.phase }, { on := 8, ground := Ground.phase }, { on := 9, ground := Ground.phase }, { on := 10, ground := Ground.phase }, { on := 11, ground := Ground.phase }, { on := 12, ground := Ground.phase }, { on := 13, ground := Ground.phase }, { on := 14, ground := Ground.phase }], guard := none }) rfl ?_ ?_
          rotate_left
          · exact AllReadyH.nil
          intro K hK
          refine step_store_seg (by rfl) 25 _ _ rfl g6 0 25 5 5 zeroPkF (pkF k.lo k.hi (.slice (some ⟨r1, 0, none⟩) nd c1) (.slice A9 n9 c9) (.slice (some ⟨r2, 0, none⟩) nc c2)) rfl rfl HG6daebc.out (by omega) sizePk (pkF_one rfl rfl rfl) ?_
          intro wz hz hTz hsz
          have Hz := Lib.hid (show FB wz g6 25 5 (pkF k.lo k.hi (.slice (some ⟨r1, 0, none⟩) nd c1) (.slice A9 n9 c9) (.slice (some ⟨r2, 0, none⟩) nc c2)) from hz.congr fun q hq => by unfold updR; rw [if_pos (by omega), Nat.sub_zero])
          have HSz := Lib.hid (show FB wz ga 25 5 X from HSdaebc.out.touch hTz HN6.out.2)
          have HL1z := Lib.hid (show Lent wz g3 r1 k.data D1 from lent_touch HL1daebc.out hTz HG6daebc.out)
          have HL2z := Lib.hid (show Lent wz g4 r2 k.code D2 from lent_touch HL2daebc.out hTz HG6daebc.out)
          have HO9z := Lib.hid (ownT_touch HO9daebc.out hTz HG6daebc.out (by decide))
          have HBz := Lib.hid (show Below w.heap.size w wz from HBdaebc.out.trans (hTz.below HN6.out.1 HBdaebc.out.size))
          clear hz hTz hsz
          refine hK.out _ _ HSz.out (fun hHeld => ?_)
          clear hK K
          try simp only [Act.put, List.setIfInBounds_toArray, List.set_cons_zero, List.set_cons_succ]
          clear hHeld
          refine wpAnyH_done (by kernel_rfl) ?_ _
          go_wp2_with fail
          go_meet
          case rel => exact ⟨_, rfl, ⟨g6, r1, r2, c1, c2, nd, nc, D1, D2, .slice A9 n9 c9, rfl, Hz.out, HL1z.out, HL2z.out, Lib.hid ⟨HD.out.len.out, HC.out.len.out⟩, Lib.hid ⟨HC1.out.symm, HC2.out.symm⟩, by rw [HC1.out]; exact HM1.out.2, by rw [HC2.out]; exact HM2.out.2, HO9z.out, HM1.out.1, HM2.out.1, HNE2.out⟩, HSz.out, HBz.out⟩
      · intro K hK
        refine step_alloc_seg (by rfl) 25 rfl 5 zeroPkF zeroPk ?_
        intro wde hC hB hs
        obtain ⟨g6, hg6⟩ : ∃ g, g = wd.heap.size := ⟨_, rfl⟩
        have HN6 := Lib.hid (show w.heap.size ≤ g6 ∧ ga ≠ g6 from ⟨by have := HBd.out.size; omega, by have := HSd.out.lt; omega⟩)
        rw [← hg6] at hC ⊢
        have HG6de := Lib.hid hC
        clear hs hg6 hC
        have HSde := Lib.hid (HSd.out.up hB)
        have HBde := Lib.hid (HBd.out.trans (hB.mono HBd.out.size))
        have HL1de := Lib.hid (Room.up HL1d.out hB)
        have HL2de := Lib.hid (Room.up HL2d.out hB)
        clear hB
        refine hK.out _ _ HSde.out (fun hHeld => ?_)
        clear hK K hHeld
        try simp only [Act.put, List.setIfInBounds_toArray, List.set_cons_zero, List.set_cons_succ]
        refine wpAnyH_ready (rs := [6]) (by kernel_rfl) (by simp) ?_
        refine AllReadyH.cons (o := { dst := some 25, op := Op.call { callee := Callee.value (Operand.func 9), args := #[Operand.tmp 3, Operand.tmp 24], argTypes := #[28, 22] }, type := 22, pos := "law.go:90", after := #[{ on := 5, ground := Ground.data }], guard := none }) rfl ?_ ?_
        rotate_left
        · exact AllReadyH.nil
        intro K hK
        go_simp
        go_at_call 9
        refine (Ln.lend_any wde g3 rb1 R1 HL1de.out Ad nd cd k.data HD.out.len.out HN.out.1 HR.out.len.1 (HD.out.up HBde.out).byt (fun _ b off e => ?_) w.heap.size HG.out.1 HR.out.ge1).mono ?_
        · have h1 := HD.out.lt b off e
          have h2 := HG.out
          omega
        rintro e wdea ⟨r1, D1, rfl, hL, hor, hmm, hk, hB⟩
        have HKdea := Lib.hid (show LendK wde g3 r1 rb1 wdea from ⟨hk, hor, room_old HL1de.out, Room.blk HL1de.out⟩)
        have HM1 := Lib.hid (show w.heap.size ≤ r1 ∧ k.data.length + (k.data.length + 70) + D1.length ≤ 1099511627776 from ⟨by rcases hor with h1 | h1; exact HR.out.ge1 r1 h1.symm; rw [h1]; exact HBde.out.size, hmm⟩)
        have HSdea := Lib.hid (show FB wdea ga 25 5 X from HKdea.out.blk HSde.out (by decide) (by obtain ⟨cs, h1⟩ := Room.blk HL1de.out; exact blk_ne HSde.out h1 (by decide)))
        have HBdea := Lib.hid (HBde.out.trans hB)
        have HL2dea := Lib.hid (HKdea.out.otherRoom HL2de.out (fun e => HG.out.2.2 e.symm) (fun x hx e => HR.out.ne x e hx))
        have HL1dea := Lib.hid hL
        have HNE1 := Lib.hid (show ∀ x, rb2 = some x → r1 ≠ x from fun x hx e => by
          subst e
          rcases hor with h1 | h1
          · exact HR.out.ne r1 h1.symm hx
          · obtain ⟨cs, h2⟩ := room_old HL2de.out r1 hx
            have := h2.lt
            omega)
        have HG6dea := Lib.hid (show FB wdea g6 25 5 zeroPkF from HKdea.out.blk HG6de.out (by decide) (by obtain ⟨cs, h1⟩ := HKdea.out.own; exact blk_ne HG6de.out h1 (by decide)))
        clear hL hor hmm hk hB
        obtain ⟨c1, hc1⟩ : ∃ c, c = k.data.length + (k.data.length + 70) + D1.length := ⟨_, rfl⟩
        rw [← hc1, HD.out.len.out]
        have HC1 := Lib.hid hc1
        clear hc1
        go_simp
        refine hK.out _ _ HSdea.out (fun hHeld => ?_)
        clear hK K hHeld
        try simp only [Act.put, List.setIfInBounds_toArray, List.set_cons_zero, List.set_cons_succ]
        refine wpAnyH_ready (rs := [9]) (by kernel_rfl) (by simp) ?_
        refine AllReadyH.cons (o := { dst := some 28, op := Op.call { callee := Callee.value (Operand.func 10), args := #[Operand.tmp 27], argTypes := #[23] }, type := 23, pos := "law.go:90", after := #[{ on := 8, ground := Ground.data }, { on := 6, ground := Ground.chain }], guard := none }) rfl ?_ ?_
        rotate_left
        · exact AllReadyH.nil
        intro K hK
        go_simp
        go_at_call 10
        refine (copyTables_own wdea At nt ct k.tabs (HTT.out.up HBdea.out) HN.out.2.2).mono ?_
        rintro e wdeab ⟨v9, rfl, hO, hB⟩
        have HO9deab := Lib.hid (ownR_base (base' := w.heap.size) hO HBdea.out.size)
        clear hO
        obtain ⟨A9, n9, c9, rfl, -⟩ := OwnR.form HO9deab.out
        have HSdeab := Lib.hid (HSdea.out.up hB)
        have HBdeab := Lib.hid (HBdea.out.trans (hB.mono HBdea.out.size))
        have HL1deab := Lib.hid (Lent.up HL1dea.out hB)
        have HL2deab := Lib.hid (Room.up HL2dea.out hB)
        have HG6deab := Lib.hid (HG6dea.out.up hB)
        clear hB
        go_simp
        refine hK.out _ _ HSdeab.out (fun hHeld => ?_)
        clear hK K hHeld
        try simp only [Act.put, List.setIfInBounds_toArray, List.set_cons_zero, List.set_cons_succ]
        refine wpAnyH_ready (rs := [12]) (by kernel_rfl) (by simp) ?_
        refine AllReadyH.cons (o := { dst := some 31, op := Op.call { callee := Callee.value (Operand.func 9), args := #[Operand.tmp 4, Operand.tmp 30], argTypes := #[28, 22] }, type := 22, pos := "law.go:90", after := #[{ on := 11, ground := Ground.data }, { on := 9, ground := Ground.chain }], guard := none }) rfl ?_ ?_
        rotate_left
        · exact AllReadyH.nil
        intro K hK
        go_simp
        go_at_call 9
        refine (Ln.lend_any wdeab g4 rb2 R2 HL2deab.out Ac nc cc k.code HC.out.len.out HN.out.2.1 HR.out.len.2 (HC.out.up HBdeab.out).byt (fun _ b off e => ?_) w.heap.size HG.out.2.1 HR.out.ge2).mono ?_
        · have h1 := HC.out.lt b off e
          have h2 := HG.out
          omega
        rintro e wdeabc ⟨r2, D2, rfl, hL, hor, hmm, hk, hB⟩
        have HKdeabc := Lib.hid (show LendK wdeab g4 r2 rb2 wdeabc from ⟨hk, hor, room_old HL2deab.out, Room.blk HL2deab.out⟩)
        have HM2 := Lib.hid (show w.heap.size ≤ r2 ∧ k.code.length + (k.code.length + 70) + D2.length ≤ 1099511627776 from ⟨by rcases hor with h1 | h1; exact HR.out.ge2 r2 h1.symm; rw [h1]; exact HBdeab.out.size, hmm⟩)
        have HSdeabc := Lib.hid (show FB wdeabc ga 25 5 X from HKdeabc.out.blk HSdeab.out (by decide) (by obtain ⟨cs, h1⟩ := Room.blk HL2deab.out; exact blk_ne HSdeab.out h1 (by decide)))
        have HBdeabc := Lib.hid (HBdeab.out.trans hB)
        have HNE2 := Lib.hid (show r1 ≠ r2 from fun e => by
          rcases hor with h1 | h1
          · exact HNE1.out r2 h1.symm e
          · have := HL1deab.out.2.1.lt
            omega)
        have HL1deabc := Lib.hid (HKdeabc.out.otherLent HL1deab.out HG.out.2.2 (fun e => HNE1.out r1 e rfl))
        have HL2deabc := Lib.hid hL
        have HO9deabc := Lib.hid (show OwnR 69 2 tabF wdeabc w.heap.size (.slice A9 n9 c9) k.tabs from HKdeabc.out.rows HO9deab.out (by decide) (by decide))
        have HG6deabc := Lib.hid (show FB wdeabc g6 25 5 zeroPkF from HKdeabc.out.blk HG6deab.out (by decide) (by obtain ⟨cs, h1⟩ := HKdeabc.out.own; exact blk_ne HG6deab.out h1 (by decide)))
        clear hL hor hmm hk hB
        obtain ⟨c2, hc2⟩ : ∃ c, c = k.code.length + (k.code.length + 70) + D2.length := ⟨_, rfl⟩
        rw [← hc2, HC.out.len.out]
        have HC2 := Lib.hid hc2
        clear hc2
        go_simp
        refine hK.out _ _ HSdeabc.out (fun hHeld => ?_)
        clear hK K hHeld
        try simp only [Act.put, List.setIfInBounds_toArray, List.set_cons_zero, List.set_cons_succ]
        have hHeld := HSdeabc.out
        refine wpAnyH_take (i := 13) (oi := { dst := some 32, op := Op.build 25 #[(0, Operand.tmp 20), (1, Operand.tmp 22), (2, Operand.tmp 25), (3, Operand.tmp 28), (4, Operand.tmp 31)], type := 25, pos := "law.go:90", after := #[{ on := 1, ground := Ground.data }, { on := 3, ground := Ground.data }, { on := 6, ground := Ground.data }, { on := 9, ground := Ground.data }, { on := 12, ground := Ground.data }], guard := none }) (v := .agg #[.int .i64 k.lo, .int .i64 k.hi, .slice (some ⟨r1, 0, none⟩) nd c1, .slice A9 n9 c9, .slice (some ⟨r2, 0, none⟩) nc c2]) rfl (by kernel_rfl) (by kernel_rfl) (by kernel_rfl) (fun _ _ _ h => h) (Or.inl ⟨by rfl, ?_⟩) (by assumption) ?_
        · intro w hSw
          go_simp
        try simp only [Act.put, List.setIfInBounds_toArray, List.set_cons_zero, List.set_cons_succ]
        clear hHeld
        refine wpAnyH_ready (rs := [15]) (by kernel_rfl) (by simp) ?_
        refine AllReadyH.cons (o := { dst := none, op := Op.store 25 (Operand.tmp 6) (Operand.tmp 32), type := 0, pos := "law.go:90", after := #[{ on := 14, ground := Ground.data }, { on := 13, ground := Ground.data }, { on := 12, ground := Ground.chain }, { on := 0, ground := Ground.phase }, { on := 1, ground := Ground.phase }, { on := 2, ground := Ground.phase }, { on := 3, ground := Ground.phase }, { on := 4, ground := Ground.phase }, { on := 5, ground := Ground.phase }, { on := 6, ground := Ground.phase }, { on := 7, ground := Ground.phase }, { on := 8, ground := Ground.phase }, { on := 9, ground := Ground.phase }, { on := 10, ground := Ground.phase }, { on := 11, ground := Ground.phase }, { on := 12, ground := Ground.phase }, { on := 13, ground := Ground.phase }, { on := 14, ground := Ground.phase }], guard := none }) rfl ?_ ?_
        rotate_left
        · exact AllReadyH.nil
        intro K hK
        refine step_store_seg (by rfl) 25 _ _ rfl g6 0 25 5 5 zeroPkF (pkF k.lo k.hi (.slice (some ⟨r1, 0, none⟩) nd c1) (.slice A9 n9 c9) (.slice (some ⟨r2, 0, none⟩) nc c2)) rfl rfl HG6deabc.out (by omega) sizePk (pkF_one rfl rfl rfl) ?_
        intro wz hz hTz hsz
        have Hz := Lib.hid (show FB wz g6 25 5 (pkF k.lo k.hi (.slice (some ⟨r1, 0, none⟩) nd c1) (.slice A9 n9 c9) (.slice (some ⟨r2, 0, none⟩) nc c2)) from hz.congr fun q hq => by unfold updR; rw [if_pos (by omega), Nat.sub_zero])
        have HSz := Lib.hid (show FB wz ga 25 5 X from HSdeabc.out.touch hTz HN6.out.2)
        have HL1z := Lib.hid (show Lent wz g3 r1 k.data D1 from lent_touch HL1deabc.out hTz HG6deabc.out)
        have HL2z := Lib.hid (show Lent wz g4 r2 k.code D2 from lent_touch HL2deabc.out hTz HG6deabc.out)
        have HO9z := Lib.hid (ownT_touch HO9deabc.out hTz HG6deabc.out (by decide))
        have HBz := Lib.hid (show Below w.heap.size w wz from HBdeabc.out.trans (hTz.below HN6.out.1 HBdeabc.out.size))
        clear hz hTz hsz
        refine hK.out _ _ HSz.out (fun hHeld => ?_)
        clear hK K
        try simp only [Act.put, List.setIfInBounds_toArray, List.set_cons_zero, List.set_cons_succ]
        clear hHeld
        refine wpAnyH_done (by kernel_rfl) ?_ _
        go_wp2_with fail
        go_meet
        case rel => exact ⟨_, rfl, ⟨g6, r1, r2, c1, c2, nd, nc, D1, D2, .slice A9 n9 c9, rfl, Hz.out, HL1z.out, HL2z.out, Lib.hid ⟨HD.out.len.out, HC.out.len.out⟩, Lib.hid ⟨HC1.out.symm, HC2.out.symm⟩, by rw [HC1.out]; exact HM1.out.2, by rw [HC2.out]; exact HM2.out.2, HO9z.out, HM1.out.1, HM2.out.1, HNE2.out⟩, HSz.out, HBz.out⟩
    case rest =>
      obtain ⟨w8, hw8, ⟨g6, r1, r2, c1, c2, nd', nc', D1, D2, vt6, rfl, hF6, hL1, hL2, HLN, HCN, hc1, hc2, hO6, hr1, hr2, hr12⟩, hFA, hB8⟩ := hcut
      subst hw8
      obtain rfl : nd' = nd := by rw [← HLN.out.1, HD.out.len.out]
      obtain rfl : nc' = nc := by rw [← HLN.out.2, HC.out.len.out]
      obtain ⟨Y, hY⟩ : ∃ Y, Y = pkF k.lo k.hi (.slice (some ⟨r1, 0, none⟩) nd' c1) vt6 (.slice (some ⟨r2, 0, none⟩) nc' c2) := ⟨_, rfl⟩
      rw [← hY] at hF6
      have HY := Lib.hid hY
      have HF6 := Lib.hid hF6
      have HL1 := Lib.hid hL1
      have HL2 := Lib.hid hL2
      have HFA := Lib.hid hFA
      have HB8 := Lib.hid hB8
      have HCB := Lib.hid (And.intro hc1 (And.intro hc2 (And.intro hr1 (And.intro hr2 hr12))))
      have HPG := Lib.hid (show PkAt w8 (.slice (some ⟨r1, 0, none⟩) nd' c1) vt6 (.slice (some ⟨r2, 0, none⟩) nc' c2) k from by
        obtain ⟨A6, m6, c6, e6, hm6, hc6, hr6, -⟩ := OwnR.form hO6
        refine ⟨⟨_, _, _, rfl, ?_⟩, ⟨A6, m6, c6, e6, ⟨Lib.hid hm6.out.symm, hc6, hr6⟩⟩, ⟨_, _, _, rfl, ?_⟩⟩
        · have h := Lent.sl hL1 HLN.out.1; rw [HCN.out.1] at h; exact h
        · have h := Lent.sl hL2 HLN.out.2; rw [HCN.out.2] at h; exact h)
      clear hY hF6 hL1 hL2 hFA hB8 hc1 hc2 hr1 hr2 hr12 hO6 HR
      obtain ⟨pr, hpr⟩ : ∃ z, z = progG k := ⟨_, rfl⟩
      have HPR := Lib.hid hpr
      clear hpr
      obtain ⟨⟨pat, per⟩, pz⟩ := pr
      go_upto_region 9 with (first
        | (refine wpList_load_all rfl 25 _ rfl g6 rfl 25 5 Y _ HF6.out Tryd.underlying25 rfl sizePk ?_)
        | (go_at_call 11; rw [HY.out]; refine (program_any w8 k _ _ _ HPG.out HS.out (HT.out.below HB8.out)).mono ?_; rintro e w9 ⟨hB9, hR⟩; obtain ⟨pd, pt, pc, rfl, hO9⟩ := prog_uni HS.out hR; rw [← HY.out, ← HPR.out]; rw [← HPR.out] at hO9; have HO9 := Lib.hid (show OwnPg w9 w8.heap.size pd pt pc pz from hO9); have HB9 := Lib.hid hB9; clear hR hB9 hO9; have HO1 := Lib.hid (pkF_one (lo := pz.lo) (hi := pz.hi) (ownB_one HO9.out.data) (ownT_form HO9.out.tabs) (ownR_one HO9.out.code)); obtain ⟨Q, hQ⟩ : ∃ F, F = pkF pz.lo pz.hi pd pt pc := ⟨_, rfl⟩; rw [← hQ]; rw [← hQ] at HO1; have HQ := Lib.hid hQ; clear hQ)
        | (refine wpList_alloc_seg rfl 33 rfl 5 zeroPkF zeroPg ?_; intro w10 h10 hB10 hs10; clear hs10)
        | (refine wpList_store_all rfl 33 _ _ rfl w9.heap.size 33 5 _ Q rfl rfl h10 sizePg HO1.out ?_; intro w11 h11 hT11 hs11; clear hs11))
      have HO11 := Lib.hid ((HO9.out.up hB10).touch hT11 h10 (by decide) (by decide) (by decide))
      obtain ⟨g7, hg7⟩ : ∃ g, g = w9.heap.size := ⟨_, rfl⟩
      have hb11 : Below w9.heap.size w9 w11 := hB10.trans (hT11.below (Nat.le_refl _) hB10.size)
      rw [← hg7] at h11 ⊢
      have HF7 := Lib.hid h11
      have HB11k := Lib.hid (HB9.out.trans (hb11.mono HB9.out.size))
      have HB11 := Lib.hid (HB8.out.trans (HB11k.out.mono HB8.out.size))
      have HFA11 := Lib.hid (HFA.out.up HB11k.out)
      clear h10 hB10 h11 hT11 hb11 hg7 HO9 HO1 HB9
      go_upto_region 10 with (first
        | (refine wpList_load_all rfl 25 _ rfl ga rfl 25 5 X _ HFA11.out Tryd.underlying25 rfl sizePk ?_)
        | (go_at_call 13; rw [HX.out]; refine (copyPack_any w11 k _ _ _ (HP.out.up HB11.out) HS.out.data HS.out.code HS.out.tabs).mono ?_; rintro e w12 ⟨ud, ut, uc, rfl, hP12, hB12⟩; have HP12 := Lib.hid hP12; have HB12k := Lib.hid hB12; have HB12 := Lib.hid (HB11.out.trans (hB12.mono HB11.out.size)); clear hP12 hB12; rw [← HX.out]; obtain ⟨Z, hZ⟩ : ∃ Z, Z = pkF k.lo k.hi ud ut uc := ⟨_, rfl⟩; rw [← hZ]; have HZ := Lib.hid hZ; clear hZ)
        | (go_at_call 12; rw [HZ.out]; refine (rprogram_any w12 k _ _ _ HP12.out HS.out).mono ?_; rintro e w13 ⟨hB13, hR⟩; obtain ⟨qd, qt, qc, rfl, hO13⟩ := prog_uni HS.out hR; rw [← HZ.out, ← HPR.out]; rw [← HPR.out] at hO13; have HO13 := Lib.hid (show OwnPg w13 w12.heap.size qd qt qc pz from hO13); have HB13k := Lib.hid (HB12k.out.trans (hB13.mono HB12k.out.size)); clear hR hB13 hO13; have HO1 := Lib.hid (pkF_one (lo := pz.lo) (hi := pz.hi) (ownB_one HO13.out.data) (ownT_form HO13.out.tabs) (ownR_one HO13.out.code)); obtain ⟨E, hE⟩ : ∃ F, F = pkF pz.lo pz.hi qd qt qc := ⟨_, rfl⟩; rw [← hE]; rw [← hE] at HO1; have HE := Lib.hid hE; clear hE)
        | (refine wpList_alloc_seg rfl 33 rfl 5 zeroPkF zeroPg ?_; intro w14 h14 hB14 hs14; clear hs14)
        | (refine wpList_store_all rfl 33 _ _ rfl w13.heap.size 33 5 _ E rfl rfl h14 sizePg HO1.out ?_; intro w15 h15 hT15 hs15; clear hs15))
      have HO15 := Lib.hid ((HO13.out.up hB14).touch hT15 h14 (by decide) (by decide) (by decide))
      obtain ⟨gA, hgA⟩ : ∃ g, g = w13.heap.size := ⟨_, rfl⟩
      have hb15 : Below w13.heap.size w13 w15 := hB14.trans (hT15.below (Nat.le_refl _) hB14.size)
      rw [← hgA] at h15 ⊢
      have HFE := Lib.hid h15
      have HB15k := Lib.hid (HB13k.out.trans (hb15.mono HB13k.out.size))
      have HB15 := Lib.hid (HB11.out.trans (HB15k.out.mono HB11.out.size))
      have HB15g := Lib.hid (HB11k.out.trans (HB15k.out.mono HB11k.out.size))
      have HQ15 := Lib.hid (HO11.out.up HB15k.out)
      have HF715 := Lib.hid (HF7.out.up HB15k.out)
      have HFA15 := Lib.hid (HFA11.out.up HB15k.out)
      have HF615 := Lib.hid (HF6.out.up HB15g.out)
      have HPG15 := Lib.hid (HPG.out.up HB15g.out)
      have HL115 := Lib.hid (Lent.up HL1.out HB15g.out)
      have HL215 := Lib.hid (Lent.up HL2.out HB15g.out)
      have HLT := Lib.hid (show g3 < w8.heap.size ∧ r1 < w8.heap.size ∧ g4 < w8.heap.size ∧ r2 < w8.heap.size from ⟨HL1.out.2.2.lt, HL1.out.2.1.lt, HL2.out.2.2.lt, HL2.out.2.1.lt⟩)
      have HLT2 := Lib.hid (show w8.heap.size ≤ w12.heap.size from Nat.le_trans HB11k.out.size HB12k.out.size)
      clear h14 hB14 h15 hT15 hb15 hgA HO13 HO1 HB13k HB12k HB12 HP12 HZ HO11 HF7 HFA11 HF6 HPG HL1 HL2 HB11k HB15k
      have HSK := Lib.hid (samePack_any w15 k k _ _ _ _ _ _ HPG15.out (HP.out.up HB15.out) HS.out.bd HS.out.bc HS.out.bd HS.out.bc (by have := HS.out.tabs; omega) (by have := HS.out.tabs; omega))
      rw [samePk_self] at HSK
      have HPZ := Lib.hid (show SmallG pz ∨ pz = Pg.none from by
        by_cases h0 : (progG k).1.2 = 0
        · left; have h1 := smallG_prog HS.out h0; rw [← HPR.out] at h1; exact h1
        · right; have h1 := (prog_err (fun x hx => HS.out.bc x hx) h0).1; rw [← HPR.out] at h1; exact h1)
      have HPB := Lib.hid (show Bytes pz.data ∧ pz.tabs.length ≤ 1152921504606846976 ∧ pz.code.length ≤ 4611686018427387904 from by
        rcases HPZ.out with h1 | h1
        · exact ⟨h1.bd, by have := h1.tabs; omega, by have := h1.code; omega⟩
        · rw [h1]; exact ⟨Bytes.nil, by simp [Pg.none], by simp [Pg.none]⟩)
      go_upto_region 10 with fail
      go_wp2_with (first
        | (refine wpList_load_cells rfl 25 _ rfl g6 0 rfl 5 Y _ (fb_cells HF615.out) Tryd.underlying25 rfl sizePk ?_)
        | (refine wpList_load_cells rfl 25 _ rfl ga 0 rfl 5 X _ (fb_cells HFA15.out) Tryd.underlying25 rfl sizePk ?_)
        | (go_at_call 14; rw [HY.out, HX.out]; refine HSK.out.mono ?_; rintro e w16 ⟨rfl, hB16⟩; rw [← HY.out, ← HX.out]
           have HB16 := Lib.hid (HB15.out.trans (hB16.mono HB15.out.size))
           have HFA16 := Lib.hid (HFA15.out.up hB16)
           have HL116 := Lib.hid (Lent.up HL115.out hB16)
           have HL216 := Lib.hid (Lent.up HL215.out hB16)
           have HQ16 := Lib.hid (HQ15.out.up hB16)
           have HE16 := Lib.hid (HO15.out.up hB16)
           have HF716 := Lib.hid (HF715.out.up hB16)
           have HFE16 := Lib.hid (HFE.out.up hB16)
           clear hB16
           have x2 : w16.cell? ⟨ga, 2, none⟩ = some (.slice Ad nd' cd) := by rw [HFA16.out.cell 2 (by decide), HX.out]; rfl)
        | (go_at_call 15; refine (Ln.back_any w16 g3 r1 c1 k.data D1 HL116.out Ad nd' cd HD.out.len.out HN.out.1 HCN.out.1 HCB.out.1 (HD.out.up HB16.out).byt HS.out.bd w.heap.size HCB.out.2.2.1).mono ?_; rintro e w17 ⟨R1', hR1, hY1, hbk1, rfl, hroom1, hk1, hb1⟩
           have HB17 := Lib.hid (HB16.out.trans hb1)
           have HR1 := Lib.hid hroom1
           have HR1L := Lib.hid hR1
           have hg34 := HG.out.2.2
           have hgr : g4 ≠ r1 := blk_ne HL216.out.2.2 HL116.out.2.1 (by decide)
           have hrg : r2 ≠ g3 := blk_ne HL216.out.2.1 HL116.out.2.2 (by decide)
           have HL217 := Lib.hid (show Lent w17 g4 r2 k.code D2 from ⟨HL216.out.1, keep_blk hk1 HL216.out.2.1 hrg (fun e => HCB.out.2.2.2.2 e.symm), keep_blk hk1 HL216.out.2.2 (fun e => hg34 e.symm) hgr⟩)
           have HFA17 := Lib.hid (show FB w17 ga 25 5 X from keep_blk hk1 HFA16.out (blk_ne HFA16.out HL116.out.2.2 (by decide)) (blk_ne HFA16.out HL116.out.2.1 (by decide)))
           have HF717 := Lib.hid (show FB w17 g7 33 5 Q from keep_blk hk1 HF716.out (blk_ne HF716.out HL116.out.2.2 (by decide)) (blk_ne HF716.out HL116.out.2.1 (by decide)))
           have HFE17 := Lib.hid (show FB w17 gA 33 5 E from keep_blk hk1 HFE16.out (blk_ne HFE16.out HL116.out.2.2 (by decide)) (blk_ne HFE16.out HL116.out.2.1 (by decide)))
           have HQ17 := Lib.hid (HQ16.out.kept hk1 HLT.out.1 HLT.out.2.1)
           have HE17 := Lib.hid (HE16.out.kept hk1 (Nat.lt_of_lt_of_le HLT.out.1 HLT2.out) (Nat.lt_of_lt_of_le HLT.out.2.1 HLT2.out))
           clear hR1 hY1 hbk1 hroom1 hk1 hb1 hg34 hgr hrg HFA16 HL116 HL216 HQ16 HE16 HF716 HFE16 x2
           have x4 : w17.cell? ⟨ga, 4, none⟩ = some (.slice Ac nc' cc) := by rw [HFA17.out.cell 4 (by decide), HX.out]; rfl)
        | (go_at_call 15; refine (Ln.back_any w17 g4 r2 c2 k.code D2 HL217.out Ac nc' cc HC.out.len.out HN.out.2.1 HCN.out.2 HCB.out.2.1 (HC.out.up HB17.out).byt HS.out.bc w.heap.size HCB.out.2.2.2.1).mono ?_; rintro e w18 ⟨R2', hR2, hY2, hbk2, rfl, hroom2, hk2, hb2⟩
           have HB18 := Lib.hid (HB17.out.trans hb2)
           have HR2 := Lib.hid hroom2
           have HR2L := Lib.hid hR2
           have hg34 := HG.out.2.2
           have HR118 := Lib.hid (show Room w18 g3 (some r1) R1' from room_keep2 HR1.out hk2 hg34 (HCB.out.2.2.2.2) HL217.out)
           have HFA18 := Lib.hid (show FB w18 ga 25 5 X from keep_blk hk2 HFA17.out (blk_ne HFA17.out HL217.out.2.2 (by decide)) (blk_ne HFA17.out HL217.out.2.1 (by decide)))
           have HF718 := Lib.hid (show FB w18 g7 33 5 Q from keep_blk hk2 HF717.out (blk_ne HF717.out HL217.out.2.2 (by decide)) (blk_ne HF717.out HL217.out.2.1 (by decide)))
           have HFE18 := Lib.hid (show FB w18 gA 33 5 E from keep_blk hk2 HFE17.out (blk_ne HFE17.out HL217.out.2.2 (by decide)) (blk_ne HFE17.out HL217.out.2.1 (by decide)))
           have HQ18 := Lib.hid (HQ17.out.kept hk2 HLT.out.2.2.1 HLT.out.2.2.2)
           have HE18 := Lib.hid (HE17.out.kept hk2 (Nat.lt_of_lt_of_le HLT.out.2.2.1 HLT2.out) (Nat.lt_of_lt_of_le HLT.out.2.2.2 HLT2.out))
           clear hR2 hY2 hbk2 hroom2 hk2 hb2 hg34 HFA17 HL217 HQ17 HE17 HF717 HFE17 x4)
        | (go_at_call 16; refine (num_errno _ _).mono ?_; rintro e u ⟨rfl, rfl⟩)
        | (refine wpList_load_cells rfl 33 _ rfl g7 0 rfl 5 Q _ (fb_cells HF718.out) Tryd.underlying33 rfl sizePg ?_)
        | (refine wpList_load_cells rfl 33 _ rfl gA 0 rfl 5 E _ (fb_cells HFE18.out) Tryd.underlying33 rfl sizePg ?_)
        | (go_at_call 17; rw [HQ.out, HE.out]; have HSP := sameProgram_any w18 pz pz _ _ _ _ _ _ HQ18.out.at_ HE18.out.at_ HPB.out.1 HPB.out.1 HPB.out.2.2 HPB.out.2.1 HPB.out.2.1; rw [samePg_self] at HSP; refine HSP.mono ?_; rintro e w19 ⟨rfl, hB19⟩; rw [← HQ.out, ← HE.out]; clear HSP))
      go_roundw
      case rel => exact ⟨j + 1, some r1, R1', some r2, R2', by go_num, by omega, Lib.hid ⟨HB18.out.trans (hB19.mono HB18.out.size), HFA18.out.up hB19, Room.up HR118.out hB19, Room.up HR2.out hB19, ⟨by rw [HR1L.out]; exact HCB.out.1, by rw [HR2L.out]; exact HCB.out.2.1⟩, fun r h => by injection h with h; rw [← h]; exact HCB.out.2.2.1, fun r h => by injection h with h; rw [← h]; exact HCB.out.2.2.2.1, fun r h e => by injection h with h; injection e with e; exact HCB.out.2.2.2.2 (h.trans e.symm)⟩⟩
      case measure => simp [intOf]; omega
end Go.Proofs.YtlodoinmippebaaDoor.Pak
