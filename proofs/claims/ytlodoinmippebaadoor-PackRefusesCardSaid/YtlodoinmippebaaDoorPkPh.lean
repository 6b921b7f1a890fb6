/- Package pack: PackRefuses's walk: a right program that is turned in one way. Laid by wip/tools/mkpkph.py. -/
import Derived.Test.YtlodoinmippebaaDoorPkPg
import Derived.Deep.CutBlock
import Derived.Deep.DeepCutAuto
namespace Go.Proofs.YtlodoinmippebaaDoor.Pak
open Go.ChangeShapes Go.WideShapes Go.ChangeAt Go.RowKit
open Cod
set_option linter.unusedVariables false
set_option linter.unusedSimpArgs false
set_option maxRecDepth 100000
theorem and_mask (a : Int) (k : Nat) (hk : k ≤ 4611686018427387903) : ∃ m : Nat, bits BinOp.and IntKind.i64 a (k : Int) = (m : Int) ∧ m ≤ k := by
  have h : (BitVec.ofInt 64 a &&& BitVec.ofInt 64 (k : Int)).toNat ≤ k := by
    rw [BitVec.toNat_and]
    refine Nat.le_trans Nat.and_le_right ?_
    rw [BitVec.toNat_ofInt]
    omega
  refine ⟨(BitVec.ofInt 64 a &&& BitVec.ofInt 64 (k : Int)).toNat, ?_, h⟩
  show IntKind.i64.wrap (((BitVec.ofInt 64 a &&& BitVec.ofInt 64 (k : Int)).toNat : Nat) : Int) = _
  generalize (BitVec.ofInt 64 a &&& BitVec.ofInt 64 (k : Int)).toNat = m at *
  simp [IntKind.wrap, IntKind.bits, IntKind.signed]
  omega
theorem grown_blk {α : Type} {e : TypeId} {s : Nat} {f : α → Nat → Value} {w w' : World} {base : Nat} {v : Value} {l : List α} (ho : OwnR e s f w base v l) (hg : w.grownBy w' v.ownBlock) {g : Nat} {t : TypeId} {cs : Array Value} (hb : Blk w g t cs) (h1 : e ≠ t) : Blk w' g t cs :=
  (hg.block g hb.lt fun eb => by
    rcases ho.2 with ⟨hv, -⟩ | ⟨g2, cap, cur, hv, -, hh, -⟩
    · rw [hv] at eb; cases eb
    · rw [hv] at eb
      have eb2 : g = g2 := by injection eb
      subst eb2
      have hq : some (Obj.cells cur e (0, 0)) = some (Obj.cells cs t (0, 0)) := hh.symm.trans hb
      injection hq with hq
      injection hq with _ hq
      exact h1 hq).trans hb
theorem grown_own {α β : Type} {e e2 : TypeId} {s s2 : Nat} {f : α → Nat → Value} {f2 : β → Nat → Value} {w w' : World} {base base2 : Nat} {v v2 : Value} {l : List α} {l2 : List β} (ho : OwnR e s f w base v l) (hg : w.grownBy w' v.ownBlock) (h2 : OwnR e2 s2 f2 w base2 v2 l2) (h1 : e ≠ e2) : OwnR e2 s2 f2 w' base2 v2 l2 := by
  refine ⟨h2.1, ?_⟩
  rcases h2.2 with h3 | ⟨g, cap, cur, hv, hg2, hh, h3⟩
  · exact .inl h3
  · exact .inr ⟨g, cap, cur, hv, hg2, grown_blk ho hg hh h1, h3⟩
theorem grown_ownB {α : Type} {e : TypeId} {s : Nat} {f : α → Nat → Value} {w w' : World} {base base2 : Nat} {v v2 : Value} {l : List α} {L : List Int} (ho : OwnR e s f w base v l) (hg : w.grownBy w' v.ownBlock) (h2 : OwnB w base2 v2 L) (h1 : e ≠ 5) : OwnB w' base2 v2 L := by
  refine ⟨h2.1, ?_⟩
  rcases h2.2 with h3 | ⟨g, cap, cur, hv, hg2, hh, h3⟩
  · exact .inl h3
  · exact .inr ⟨g, cap, cur, hv, hg2, grown_blk ho hg hh h1, h3⟩
theorem OwnPg.touch {w w' : World} {base g : Nat} {vd vt vc : Value} {k : Pg} {t : TypeId} {cs : Array Value} (h : OwnPg w base vd vt vc k) (ht : Touch g w w') (hb : Blk w g t cs) (h1 : 5 ≠ t) (h2 : 69 ≠ t) (h3 : 71 ≠ t) : OwnPg w' base vd vt vc k :=
  ⟨ownB_touch h.data ht hb h1, ownT_touch h.tabs ht hb h2, own_ne h.code ht hb h3⟩
theorem OwnPg.up {w w' : World} {base : Nat} {vd vt vc : Value} {k : Pg} (h : OwnPg w base vd vt vc k) (hb : Below w.heap.size w w') : OwnPg w' base vd vt vc k := ⟨ownB_up h.data hb, h.tabs.up hb, h.code.up hb⟩
theorem OwnPg.at_ {w : World} {base : Nat} {vd vt vc : Value} {k : Pg} (h : OwnPg w base vd vt vc k) : PgAt w vd vt vc k := pgAt_of h.data h.tabs h.code
theorem PgAt.sized {w : World} {vd vt vc : Value} {k : Pg} (h : PgAt w vd vt vc k) (lo hi : Int) : PgAt w vd vt vc ⟨lo, hi, k.data, k.tabs, k.code⟩ := ⟨h.data, h.tabs, h.code⟩
theorem set_touch {w : World} {g k : Nat} {v : Value} {t : TypeId} {n : Nat} {f : Nat → Value} (h : FB w g t n f) : Touch g w (w.setCell ⟨g, k, none⟩ v) := Touch.set_ w k v
/-- what the law holds behind the turning -/
structure RefR (g : Pg) (w9 : World) (gq : Nat) (s13 s14 : Value) (W : World) : Prop where
  ex : ∃ (q : Pg) (qd qt qc : Value) (want at_ : Int), s13 = .int .i64 want ∧ s14 = .int .i64 at_ ∧ Turned g q at_ want ∧ SmallG q ∧ FB W gq 33 5 (pkF q.lo q.hi qd qt qc) ∧ PgAt W qd qt qc q
  below : Below w9.heap.size w9 W
theorem zeroIns : (Tryd.prog.info? 71).bind (fun i => i.zero.map Value.cells) = some (arr 8 (insF zeroI)) := by kernel_rfl
theorem bytes_zero (k : Nat) : Bytes (List.replicate k 0) := fun x hx => by
  rw [List.eq_of_mem_replicate hx]; exact ⟨by decide, by decide⟩
theorem made_sl (w : World) (k : Nat) : Sl (w.alloc (.cells (arr (k * 1) fun q => (fun _ => Value.int .u8 0) (q % 1)) 5)) (some ⟨w.heap.size, 0, none⟩) k k (List.replicate k 0) :=
  ⟨Lib.hid (by simp), Nat.le_refl _, fun hp => ⟨w.heap.size, 0, rfl, by simp, fun i hi => by
    have h := (FB.new w 5 (k * 1) (fun q => (fun _ => Value.int .u8 0) (q % 1))).cell i (by simpa using hi)
    rw [Nat.zero_add, h]
    simp at hi
    simp [hi]⟩, fun b off e => by injection e with e; injection e with e1; subst e1; simp⟩
structure OwnPk (w : World) (base : Nat) (vd vt vc : Value) (k : Pk) : Prop where
  data : OwnB w base vd k.data
  tabs : OwnR 69 2 tabF w base vt k.tabs
  code : OwnB w base vc k.code
theorem OwnPk.touch {w w' : World} {base g : Nat} {vd vt vc : Value} {k : Pk} {t : TypeId} {cs : Array Value} (h : OwnPk w base vd vt vc k) (ht : Touch g w w') (hb : Blk w g t cs) (h1 : 5 ≠ t) (h2 : 69 ≠ t) : OwnPk w' base vd vt vc k :=
  ⟨ownB_touch h.data ht hb h1, ownT_touch h.tabs ht hb h2, ownB_touch h.code ht hb h1⟩
structure RgS (gq gp : Nat) (QF F : Nat → Value) (W : World) : Prop where
  q : FB W gq 33 5 QF
  k : FB W gp 25 5 F
structure RcS (g q : Pg) (gp : Nat) (F : Nat → Value) (w0 : World) (s21 : Value) (W : World) : Prop where
  ex : ∃ (gc : Nat) (va vb vc : Value), s21 = .pointer (some ⟨gc, 0, none⟩) ∧ FB W gc 25 5 (pkF q.lo q.hi va vb vc) ∧ PkAt W va vb vc (contK g q) ∧ gp ≠ gc ∧ w0.heap.size ≤ gc
  k : FB W gp 25 5 F
  below : Below w0.heap.size w0 W
def CopPkO (w : World) (k : Pk) (e : Ending) (w' : World) : Prop := ∃ vd vt vc, e = .returned (.agg (arr 5 (pkF k.lo k.hi vd vt vc))) ∧ OwnPk w' w.heap.size vd vt vc k ∧ Below w.heap.size w w'
structure CpP (gb gr : Nat) (X : Nat → Value) (W : World) : Prop where
  box : FB W gb 25 5 X
  res : ∃ f, FB W gr 25 5 f
  ne : gb ≠ gr
set_option maxHeartbeats 4000000 in
theorem copyPack_own (w : World) (k : Pk) (vd vt vc : Value) (hk : PkAt w vd vt vc k) (hdl : k.data.length ≤ 140737488355328) (hcl : k.code.length ≤ 140737488355328) (htl : k.tabs.length ≤ 8796093022208) :
    Calls Tryd.prog 13 #[.agg (arr 5 (pkF k.lo k.hi vd vt vc))] w (CopPkO w k) := by
  obtain ⟨⟨Ad, nd, cd, rfl, hD⟩, ⟨At, nt, ct, rfl, hT⟩, Ac, nc, cc, rfl, hC⟩ := hk
  obtain ⟨lo, hi, data, tabs, code⟩ := k
  simp only at hD hT hC hdl hcl htl ⊢
  have HD := Lib.hid hD
  have HT := Lib.hid hT
  have HC := Lib.hid hC
  have hnd : nd ≤ 140737488355328 := by have := hD.len.out; omega
  have hnc : nc ≤ 140737488355328 := by have := hC.len.out; omega
  have hnt : nt ≤ 8796093022208 := by have := hT.len.out; omega
  obtain ⟨X, hX⟩ : ∃ X, X = pkF lo hi (.slice Ad nd cd) (.slice At nt ct) (.slice Ac nc cc) := ⟨_, rfl⟩
  rw [← hX]
  have HX := Lib.hid hX
  clear hX hD hT hC hdl hcl htl
  go_enter Tryd.func13, Tryd.ntmps13
  go_upto_region 1 with (first
    | (refine wpList_box_seg rfl _ (.tmp 0) rfl 5 X rfl ?_; intro w1 h1 hB1 hs1)
    | (refine wpList_alloc_seg rfl 25 rfl 5 zeroPkF zeroPk ?_; intro w2 h2 hB2 hs2))
  obtain ⟨gb, hgb⟩ : ∃ gb, gb = w.heap.size := ⟨_, rfl⟩
  obtain ⟨gr, hgr⟩ : ∃ gr, gr = w1.heap.size := ⟨_, rfl⟩
  rw [← hgb] at h1 ⊢
  rw [← hgr] at h2 ⊢
  have hb2 : Below w.heap.size w w2 := hB1.trans (hB2.mono hB1.size)
  have HB2 := Lib.hid hb2
  have HS := Lib.hid (show CpP gb gr X w2 from ⟨h1.up hB2, ⟨_, h2⟩, by omega⟩)
  have HGR := Lib.hid (show w.heap.size ≤ gr ∧ gr < w2.heap.size by omega)
  clear h1 hB1 hs1 h2 hB2 hs2 hgb hgr hb2
  refine wp_region_held_drew (S := fun W => CpP gb gr X W) (by kernel_rfl) ⟨HS.out.box.drewN 1, HS.out.res.imp fun _ h => h.drewN 1, HS.out.ne⟩ (fun hHeld => ?_)
  refine wpAnyH_take (i := 0) (oi := { dst := some 3, op := Op.fieldAddr 25 (Operand.tmp 1) 0, type := 0, pos := "plain.go:96", after := #[], guard := none }) (v := .pointer (some ⟨gb, 0, none⟩)) rfl (by kernel_rfl) (by kernel_rfl) (by kernel_rfl) (fun _ _ _ h => h) (Or.inl ⟨by rfl, ?_⟩) (by assumption) ?_
  · intro w hSw
    go_simp
  try simp only [Act.put, List.setIfInBounds_toArray, List.set_cons_zero, List.set_cons_succ]
  refine wpAnyH_take (i := 1) (oi := { dst := some 4, op := Op.load 3 (Operand.tmp 3), type := 3, pos := "plain.go:96", after := #[{ on := 0, ground := Ground.data }], guard := none }) (v := .int .i64 lo) rfl (by kernel_rfl) (by kernel_rfl) (by kernel_rfl) (fun _ _ _ h => h) (Or.inl ⟨by rfl, ?_⟩) (by assumption) ?_
  · intro w hSw
    have q0 : w.cell? ⟨gb, 0, none⟩ = some (.int .i64 lo) := by rw [hSw.box.cell 0 (by decide), HX.out]; rfl
    go_simp
  try simp only [Act.put, List.setIfInBounds_toArray, List.set_cons_zero, List.set_cons_succ]
  refine wpAnyH_take (i := 2) (oi := { dst := some 5, op := Op.fieldAddr 25 (Operand.tmp 1) 1, type := 0, pos := "plain.go:96", after := #[], guard := none }) (v := .pointer (some ⟨gb, 1, none⟩)) rfl (by kernel_rfl) (by kernel_rfl) (by kernel_rfl) (fun _ _ _ h => h) (Or.inl ⟨by rfl, ?_⟩) (by assumption) ?_
  · intro w hSw
    go_simp
  try simp only [Act.put, List.setIfInBounds_toArray, List.set_cons_zero, List.set_cons_succ]
  refine wpAnyH_take (i := 3) (oi := { dst := some 6, op := Op.load 3 (Operand.tmp 5), type := 3, pos := "plain.go:96", after := #[{ on := 2, ground := Ground.data }], guard := none }) (v := .int .i64 hi) rfl (by kernel_rfl) (by kernel_rfl) (by kernel_rfl) (fun _ _ _ h => h) (Or.inl ⟨by rfl, ?_⟩) (by assumption) ?_
  · intro w hSw
    have q0 : w.cell? ⟨gb, 1, none⟩ = some (.int .i64 hi) := by rw [hSw.box.cell 1 (by decide), HX.out]; rfl
    go_simp
  try simp only [Act.put, List.setIfInBounds_toArray, List.set_cons_zero, List.set_cons_succ]
  refine wpAnyH_take (i := 4) (oi := { dst := some 7, op := Op.fieldAddr 25 (Operand.tmp 1) 2, type := 0, pos := "plain.go:96", after := #[], guard := none }) (v := .pointer (some ⟨gb, 2, none⟩)) rfl (by kernel_rfl) (by kernel_rfl) (by kernel_rfl) (fun _ _ _ h => h) (Or.inl ⟨by rfl, ?_⟩) (by assumption) ?_
  · intro w hSw
    go_simp
  try simp only [Act.put, List.setIfInBounds_toArray, List.set_cons_zero, List.set_cons_succ]
  refine wpAnyH_take (i := 5) (oi := { dst := some 8, op := Op.load 22 (Operand.tmp 7), type := 22, pos := "plain.go:96", after := #[{ on := 4, ground := Ground.data }], guard := none }) (v := .slice Ad nd cd) rfl (by kernel_rfl) (by kernel_rfl) (by kernel_rfl) (fun _ _ _ h => h) (Or.inl ⟨by rfl, ?_⟩) (by assumption) ?_
  · intro w hSw
    have q0 : w.cell? ⟨gb, 2, none⟩ = some (.slice Ad nd cd) := by rw [hSw.box.cell 2 (by decide), HX.out]; rfl
    go_simp
  try simp only [Act.put, List.setIfInBounds_toArray, List.set_cons_zero, List.set_cons_succ]
  refine wpAnyH_take (i := 7) (oi := { dst := some 10, op := Op.fieldAddr 25 (Operand.tmp 1) 3, type := 0, pos := "plain.go:96", after := #[], guard := none }) (v := .pointer (some ⟨gb, 3, none⟩)) rfl (by kernel_rfl) (by kernel_rfl) (by kernel_rfl) (fun _ _ _ h => h) (Or.inl ⟨by rfl, ?_⟩) (by assumption) ?_
  · intro w hSw
    go_simp
  try simp only [Act.put, List.setIfInBounds_toArray, List.set_cons_zero, List.set_cons_succ]
  refine wpAnyH_take (i := 8) (oi := { dst := some 11, op := Op.load 23 (Operand.tmp 10), type := 23, pos := "plain.go:96", after := #[{ on := 7, ground := Ground.data }], guard := none }) (v := .slice At nt ct) rfl (by kernel_rfl) (by kernel_rfl) (by kernel_rfl) (fun _ _ _ h => h) (Or.inl ⟨by rfl, ?_⟩) (by assumption) ?_
  · intro w hSw
    have q0 : w.cell? ⟨gb, 3, none⟩ = some (.slice At nt ct) := by rw [hSw.box.cell 3 (by decide), HX.out]; rfl
    go_simp
  try simp only [Act.put, List.setIfInBounds_toArray, List.set_cons_zero, List.set_cons_succ]
  refine wpAnyH_take (i := 10) (oi := { dst := some 13, op := Op.fieldAddr 25 (Operand.tmp 1) 4, type := 0, pos := "plain.go:96", after := #[], guard := none }) (v := .pointer (some ⟨gb, 4, none⟩)) rfl (by kernel_rfl) (by kernel_rfl) (by kernel_rfl) (fun _ _ _ h => h) (Or.inl ⟨by rfl, ?_⟩) (by assumption) ?_
  · intro w hSw
    go_simp
  try simp only [Act.put, List.setIfInBounds_toArray, List.set_cons_zero, List.set_cons_succ]
  refine wpAnyH_take (i := 11) (oi := { dst := some 14, op := Op.load 22 (Operand.tmp 13), type := 22, pos := "plain.go:96", after := #[{ on := 10, ground := Ground.data }], guard := none }) (v := .slice Ac nc cc) rfl (by kernel_rfl) (by kernel_rfl) (by kernel_rfl) (fun _ _ _ h => h) (Or.inl ⟨by rfl, ?_⟩) (by assumption) ?_
  · intro w hSw
    have q0 : w.cell? ⟨gb, 4, none⟩ = some (.slice Ac nc cc) := by rw [hSw.box.cell 4 (by decide), HX.out]; rfl
    go_simp
  try simp only [Act.put, List.setIfInBounds_toArray, List.set_cons_zero, List.set_cons_succ]
  refine wpAnyH_ready (rs := [6]) (by kernel_rfl) (by simp) ?_
  refine AllReadyH.cons (o := { dst := some 9, op := Op.call { callee := Callee.value (Operand.func 27), args := #[Operand.tmp 8], argTypes := #[22] }, type := 22, pos := "plain.go:96", after := #[{ on := 5, ground := Ground.data }], guard := none }) rfl ?_ ?_
  rotate_left
  · exact AllReadyH.nil
  intro K hK
  go_simp
  go_at_call 27
  refine (copyBytes_own w2.drew Ad nd cd data ((HD.out.up HB2.out).up (below_drewN (Below.refl _ _) 1)) hnd).mono ?_
  rintro e w3 ⟨v3, rfl, hO3, hB3⟩
  have HB3 := Lib.hid (show Below w.heap.size w w3 from (below_drewN HB2.out 1).trans (hB3.mono HB2.out.size))
  have HS3 := Lib.hid (show CpP gb gr X w3 from ⟨hHeld.box.up hB3, hHeld.res.imp fun _ h => h.up hB3, hHeld.ne⟩)
  have HO3 := Lib.hid (OwnB_base (base' := w.heap.size) hO3 HB2.out.size)
  have HGR3 := Lib.hid (show gr < w3.heap.size from Nat.lt_of_lt_of_le HGR.out.2 hB3.size)
  clear hO3 hB3 hHeld
  obtain ⟨A3, n3, c3, rfl, -⟩ := own_full HO3.out
  go_simp
  refine hK.out _ _ HS3.out (fun hHeld => ?_)
  clear hK K
  try simp only [Act.put, List.setIfInBounds_toArray, List.set_cons_zero, List.set_cons_succ]
  refine wpAnyH_ready (rs := [9]) (by kernel_rfl) (by simp) ?_
  refine AllReadyH.cons (o := { dst := some 12, op := Op.call { callee := Callee.value (Operand.func 10), args := #[Operand.tmp 11], argTypes := #[23] }, type := 23, pos := "plain.go:96", after := #[{ on := 8, ground := Ground.data }, { on := 6, ground := Ground.chain }], guard := none }) rfl ?_ ?_
  rotate_left
  · exact AllReadyH.nil
  intro K hK
  go_simp
  go_at_call 10
  refine (copyTables_own w3 At nt ct tabs (HT.out.up HB3.out) hnt).mono ?_
  rintro e w4 ⟨v4, rfl, hO4, hB4⟩
  have HB4 := Lib.hid (show Below w.heap.size w w4 from HB3.out.trans (hB4.mono HB3.out.size))
  have HS4 := Lib.hid (show CpP gb gr X w4 from ⟨hHeld.box.up hB4, hHeld.res.imp fun _ h => h.up hB4, hHeld.ne⟩)
  have HO4 := Lib.hid (ownR_base (base' := w.heap.size) hO4 HB3.out.size)
  have HO34 := Lib.hid (ownB_up HO3.out hB4)
  have HGR4 := Lib.hid (show gr < w4.heap.size from Nat.lt_of_lt_of_le HGR3.out hB4.size)
  clear hO4 hB4 hHeld HO3 HS3
  obtain ⟨A4, n4, c4, rfl, -⟩ := HO4.out.form
  go_simp
  refine hK.out _ _ HS4.out (fun hHeld => ?_)
  clear hK K
  try simp only [Act.put, List.setIfInBounds_toArray, List.set_cons_zero, List.set_cons_succ]
  refine wpAnyH_ready (rs := [12]) (by kernel_rfl) (by simp) ?_
  refine AllReadyH.cons (o := { dst := some 15, op := Op.call { callee := Callee.value (Operand.func 27), args := #[Operand.tmp 14], argTypes := #[22] }, type := 22, pos := "plain.go:96", after := #[{ on := 11, ground := Ground.data }, { on := 9, ground := Ground.chain }], guard := none }) rfl ?_ ?_
  rotate_left
  · exact AllReadyH.nil
  intro K hK
  go_simp
  go_at_call 27
  refine (copyBytes_own w4 Ac nc cc code (HC.out.up HB4.out) hnc).mono ?_
  rintro e w5 ⟨v5, rfl, hO5, hB5⟩
  have HB5 := Lib.hid (show Below w.heap.size w w5 from HB4.out.trans (hB5.mono HB4.out.size))
  have HS5 := Lib.hid (show CpP gb gr X w5 from ⟨hHeld.box.up hB5, hHeld.res.imp fun _ h => h.up hB5, hHeld.ne⟩)
  have HO5 := Lib.hid (OwnB_base (base' := w.heap.size) hO5 HB4.out.size)
  have HO35 := Lib.hid (ownB_up HO34.out hB5)
  have HO45 := Lib.hid (HO4.out.up hB5)
  clear hO5 hB5 hHeld HO34 HO4 HS4
  obtain ⟨A5, n5, c5, rfl, -⟩ := own_full HO5.out
  go_simp
  refine hK.out _ _ HS5.out (fun hHeld => ?_)
  clear hK K
  try simp only [Act.put, List.setIfInBounds_toArray, List.set_cons_zero, List.set_cons_succ]
  refine wpAnyH_take (i := 13) (oi := { dst := some 16, op := Op.build 25 #[(0, Operand.tmp 4), (1, Operand.tmp 6), (2, Operand.tmp 9), (3, Operand.tmp 12), (4, Operand.tmp 15)], type := 25, pos := "plain.go:96", after := #[{ on := 1, ground := Ground.data }, { on := 3, ground := Ground.data }, { on := 6, ground := Ground.data }, { on := 9, ground := Ground.data }, { on := 12, ground := Ground.data }], guard := none }) (v := .agg #[.int .i64 lo, .int .i64 hi, .slice A3 n3 c3, .slice A4 n4 c4, .slice A5 n5 c5]) rfl (by kernel_rfl) (by kernel_rfl) (by kernel_rfl) (fun _ _ _ h => h) (Or.inl ⟨by rfl, ?_⟩) (by assumption) ?_
  · intro w hSw
    go_simp
  try simp only [Act.put, List.setIfInBounds_toArray, List.set_cons_zero, List.set_cons_succ]
  clear hHeld
  refine wpAnyH_ready (rs := [14]) (by kernel_rfl) (by simp) ?_
  refine AllReadyH.cons (o := { dst := none, op := Op.store 25 (Operand.tmp 2) (Operand.tmp 16), type := 0, pos := "plain.go:96", after := #[{ on := 13, ground := Ground.data }, { on := 12, ground := Ground.chain }, { on := 0, ground := Ground.phase }, { on := 1, ground := Ground.phase }, { on := 2, ground := Ground.phase }, { on := 3, ground := Ground.phase }, { on := 4, ground := Ground.phase }, { on := 5, ground := Ground.phase }, { on := 6, ground := Ground.phase }, { on := 7, ground := Ground.phase }, { on := 8, ground := Ground.phase }, { on := 9, ground := Ground.phase }, { on := 10, ground := Ground.phase }, { on := 11, ground := Ground.phase }, { on := 12, ground := Ground.phase }, { on := 13, ground := Ground.phase }], guard := none }) rfl ?_ ?_
  rotate_left
  · exact AllReadyH.nil
  intro K hK
  obtain ⟨fo, hfo⟩ := HS5.out.res
  refine step_store_seg (by rfl) 25 _ _ rfl gr 0 25 5 5 fo (pkF lo hi (.slice A3 n3 c3) (.slice A4 n4 c4) (.slice A5 n5 c5)) rfl rfl hfo (by omega) sizePk (pkF_one rfl rfl rfl) ?_
  intro w6 h6 hT6 hs6
  have H6 := Lib.hid (show FB w6 gr 25 5 (pkF lo hi (.slice A3 n3 c3) (.slice A4 n4 c4) (.slice A5 n5 c5)) from h6.congr fun q hq => by unfold updR; rw [if_pos (by omega), Nat.sub_zero])
  have HS6 := Lib.hid (show CpP gb gr X w6 from ⟨HS5.out.box.touch hT6 HS5.out.ne, ⟨_, H6.out⟩, HS5.out.ne⟩)
  have HP6 := Lib.hid (show OwnPk w6 w.heap.size (.slice A3 n3 c3) (.slice A4 n4 c4) (.slice A5 n5 c5) ⟨lo, hi, data, tabs, code⟩ from ⟨ownB_touch HO35.out hT6 hfo (by decide), ownT_touch HO45.out hT6 hfo (by decide), ownB_touch HO5.out hT6 hfo (by decide)⟩)
  have HB6 := Lib.hid (show Below w.heap.size w w6 from HB5.out.trans (hT6.below HGR.out.1 HB5.out.size))
  clear h6 hT6 hs6 hfo
  refine hK.out _ _ HS6.out (fun hHeld => ?_)
  clear hK K
  try simp only [Act.put, List.setIfInBounds_toArray, List.set_cons_zero, List.set_cons_succ]
  clear hHeld
  refine wpAnyH_done (by kernel_rfl) ?_ _
  go_wp2_with fail
  refine bodyPost_ret (result_seg rfl _ _ gr _ 5 _ _ rfl H6.out Tryd.underlying25 rfl sizePk) rfl ⟨_, _, _, rfl, HP6.out, HB6.out⟩
set_option maxHeartbeats 16000000 in
theorem packRefuses_any (w : World) (g : Pg) (vd vt vc : Value) (kind x : Int) (hp : PgAt w vd vt vc g) (hs : SmallG g) (hkd : -9223372036854775808 ≤ kind ∧ kind ≤ 9223372036854775807) (hxx : -9223372036854775808 ≤ x ∧ x ≤ 9223372036854775807) (ht : Tabs w) :
    Calls Tryd.prog 7 #[.agg (arr 5 (pkF g.lo g.hi vd vt vc)), .int .i64 kind, .int .i64 x] w (RetB w (.bool true)) := by
  obtain ⟨X, hX⟩ : ∃ X, X = pkF g.lo g.hi vd vt vc := ⟨_, rfl⟩
  rw [← hX]
  have HX := Lib.hid hX
  have HP := Lib.hid hp
  have HS := Lib.hid hs
  have HT := Lib.hid ht
  clear hX hp hs ht hkd hxx
  obtain ⟨ck, hck⟩ : ∃ ck, ck = checkG g := ⟨_, rfl⟩
  have HCK := Lib.hid hck
  clear hck
  obtain ⟨at_, er⟩ := ck
  go_enter Tryd.func7, Tryd.ntmps7
  go_upto_region 1 with (refine wpList_box_seg rfl _ (.tmp 0) rfl 5 X rfl ?_; intro w1 h1 hB1 hs1; clear hs1)
  obtain ⟨ga, hga⟩ : ∃ g, g = w.heap.size := ⟨_, rfl⟩
  rw [← hga] at h1 ⊢
  have HB1 := Lib.hid hB1
  have HA1 := Lib.hid h1
  clear h1 hB1 hga
  go_upto_region 3 with (go_at_call 8; refine (awake_any w1).mono ?_; rintro e w3 ⟨rfl, hB3⟩)
  have HA3 := Lib.hid (HA1.out.up hB3)
  have HB3 := Lib.hid (HB1.out.trans (hB3.mono HB1.out.size))
  clear hB3 HA1 HB1
  go_upto_region 4 with (first
    | (refine wpList_load_all rfl 33 _ rfl ga rfl 33 5 X _ HA3.out Tryd.underlying33 rfl sizePg ?_)
    | (go_at_call 22; rw [HX.out]; refine (copyProgram_any w3 g _ _ _ (HP.out.up HB3.out) HS.out.data HS.out.code HS.out.tabs).mono ?_; rintro e w4 ⟨ud, ut, uc, rfl, hP4, hB4⟩; have HP4 := Lib.hid hP4; have HB4 := Lib.hid (HB3.out.trans (hB4.mono HB3.out.size)); have HA4 := Lib.hid (HA3.out.up hB4); clear hP4 hB4; rw [← HX.out]; obtain ⟨Z, hZ⟩ : ∃ Z, Z = pkF g.lo g.hi ud ut uc := ⟨_, rfl⟩; rw [← hZ]; have HZ := Lib.hid hZ; clear hZ)
    | (go_at_call 20; rw [HZ.out]; refine (checkP_any w4 g _ _ _ HP4.out HS.out).mono ?_; rintro e w5 ⟨rfl, hB5⟩; rw [← HZ.out, ← HCK.out]; have HA5 := Lib.hid (HA4.out.up hB5); have HB5 := Lib.hid (HB4.out.trans (hB5.mono HB4.out.size)); clear hB5))
  clear HP4 HB4 HA4 HB3 HA3 HZ
  by_cases h0 : er = 0
  case neg =>
    have t0 : (er != 0) = true := by rw [bne_iff_ne]; exact h0
    clear h0
    go_wp2_with fail
    go_ret
    exact ⟨rfl, HB5.out⟩
  subst h0
  obtain ⟨hen, hpr, hgood, hlen⟩ := again HS.out.rng (p := g) (by rw [← HCK.out])
  have HE := Lib.hid (show (checkG g).2 = 0 by rw [← HCK.out])
  have HSK := Lib.hid (ofG_small HS.out hgood hlen)
  have HEN := Lib.hid hen
  have HPR := Lib.hid hpr
  have HLN := Lib.hid hlen
  clear hen hpr hgood hlen HCK
  go_upto_region 7 with (first
    | (refine wpList_load_all rfl 33 _ rfl ga rfl 33 5 X _ HA5.out Tryd.underlying33 rfl sizePg ?_)
    | (go_at_call 22; rw [HX.out]; refine (copyProgram_any w5 g _ _ _ (HP.out.up HB5.out) HS.out.data HS.out.code HS.out.tabs).mono ?_; rintro e w6 ⟨ud, ut, uc, rfl, hP6, hB6⟩; have HP6 := Lib.hid hP6; have HA6 := Lib.hid (HA5.out.up hB6); have HB6 := Lib.hid (HB5.out.trans (hB6.mono HB5.out.size)); clear hP6 hB6; rw [← HX.out]; obtain ⟨Z, hZ⟩ : ∃ Z, Z = pkF g.lo g.hi ud ut uc := ⟨_, rfl⟩; rw [← hZ]; have HZ := Lib.hid hZ; clear hZ)
    | (go_at_call 19; rw [HZ.out]; refine (of_any w6 g _ _ _ HP6.out HS.out (HT.out.below HB6.out)).mono ?_; rintro e w7 ⟨hB7, hR⟩; obtain ⟨kd, kt, kc, rfl, hO1, hO2, hO3⟩ := hR.yes HE.out; rw [← HZ.out]; have HA7 := Lib.hid (HA6.out.up hB7); have HB7 := Lib.hid (HB6.out.trans (hB7.mono HB6.out.size)); have HK7 := Lib.hid (show PkAt w7 kd kt kc (ofG g) from pkAt_of hO1 hO2 hO3); obtain ⟨Ac, nc, cc, rfl, hsc⟩ := own_full hO3; have HSC := Lib.hid hsc; have HO1 := Lib.hid (pkF_one (lo := g.lo) (hi := g.hi) (ownB_one hO1) (ownT_form hO2) (ownB_one hO3)); clear hB7 hR hO1 hO2 hO3 hsc; obtain ⟨F, hF⟩ : ∃ F, F = pkF g.lo g.hi kd kt (.slice Ac nc cc) := ⟨_, rfl⟩; rw [← hF]; rw [← hF] at HO1; have HF := Lib.hid hF; clear hF)
    | (refine wpList_alloc_seg rfl 25 rfl 5 zeroPkF zeroPk ?_; intro w8 h8 hB8 hs8; clear hs8)
    | (refine wpList_store_all rfl 25 _ _ rfl w7.heap.size 25 5 _ F rfl rfl h8 sizePk HO1.out ?_; intro w9 h9 hT9 hs9; clear hs9))
  obtain ⟨gp, hgp⟩ : ∃ g, g = w7.heap.size := ⟨_, rfl⟩
  have hb9 : Below w7.heap.size w7 w9 := hB8.trans (hT9.below (Nat.le_refl _) hB8.size)
  rw [← hgp] at h9 ⊢
  have HB9 := Lib.hid (HB7.out.trans (hb9.mono HB7.out.size))
  have HF9 := Lib.hid h9
  have HA9 := Lib.hid (HA7.out.up hb9)
  have HK9 := Lib.hid (HK7.out.up hb9)
  have HSC9 := Lib.hid (HSC.out.up hb9)
  clear h8 hB8 h9 hT9 hb9 hgp HP6 HB6 HZ HB7 HA5 HB5 HA6 HA7 HK7 HO1 HSC
  go_upto_region 8 with (first
    | (refine wpList_load_all rfl 33 _ rfl ga rfl 33 5 X _ HA9.out Tryd.underlying33 rfl sizePg ?_)
    | (go_at_call 22; rw [HX.out]; refine (copyProgram_own w9 g _ _ _ (HP.out.up HB9.out) HS.out.data HS.out.code HS.out.tabs).mono ?_; rintro e w10 ⟨ud, ut, uc, rfl, hO10, hB10⟩; have HO10 := Lib.hid hO10; have HB10 := Lib.hid hB10; have HO1 := Lib.hid (pkF_one (lo := g.lo) (hi := g.hi) (ownB_one hO10.data) (ownT_form hO10.tabs) (ownR_one hO10.code)); obtain ⟨Qd, nd, cd, rfl, -⟩ := own_full hO10.data; obtain ⟨Qt, nt, ct, rfl, -⟩ := OwnR.form hO10.tabs; obtain ⟨Qc, ni, ci, rfl, -⟩ := OwnR.form hO10.code; clear hO10 hB10; rw [← HX.out]; obtain ⟨Q, hQ⟩ : ∃ Q, Q = pkF g.lo g.hi (.slice Qd nd cd) (.slice Qt nt ct) (.slice Qc ni ci) := ⟨_, rfl⟩; rw [← hQ]; rw [← hQ] at HO1; have HQ := Lib.hid hQ; clear hQ)
    | (refine wpList_alloc_seg rfl 33 rfl 5 zeroPkF zeroPg ?_; intro w11 h11 hB11 hs11; clear hs11)
    | (refine wpList_store_all rfl 33 _ _ rfl w10.heap.size 33 5 _ Q rfl rfl h11 sizePg HO1.out ?_; intro w12 h12 hT12 hs12; clear hs12))
  have HO12 := Lib.hid ((HO10.out.up hB11).touch hT12 h11 (by decide) (by decide) (by decide))
  obtain ⟨gq, hgq⟩ : ∃ g, g = w10.heap.size := ⟨_, rfl⟩
  have hb12 : Below w10.heap.size w10 w12 := hB11.trans (hT12.below (Nat.le_refl _) hB11.size)
  have hgn : w9.heap.size ≤ gq := by have := HB10.out.size; omega
  rw [← hgq] at h12 ⊢
  have HB12 := Lib.hid (show Below w9.heap.size w9 w12 from HB10.out.trans (hb12.mono HB10.out.size))
  have HQ12 := Lib.hid h12
  have HGN := Lib.hid hgn
  have HND := Lib.hid (show g.data.length = nd ∧ g.tabs.length = nt ∧ g.code.length = ni from ⟨by obtain ⟨A', n', c', hv, hh⟩ := own_full HO12.out.data; injection hv with _ e2; rw [e2]; exact hh.len.out, by obtain ⟨A', n', c', hv, hh, -⟩ := OwnR.form HO12.out.tabs; injection hv with _ e2; rw [e2]; exact hh.out.symm, by obtain ⟨A', n', c', hv, hh, -⟩ := OwnR.form HO12.out.code; injection hv with _ e2; rw [e2]; exact hh.out.symm⟩)
  clear h11 hB11 h12 hT12 hb12 hgq hgn HO10 HB10 HO1
  obtain ⟨mk, hmk, hmk2⟩ := and62 kind
  obtain ⟨m, hm, hm2⟩ := and_mask x 65535 (by decide)
  obtain ⟨m8, hm8, hm82⟩ := and_mask x 255 (by decide)
  have hm : bits BinOp.and IntKind.i64 x 65535 = (m : Int) := hm
  have hm8 : bits BinOp.and IntKind.i64 x 255 = (m8 : Int) := hm8
  obtain ⟨z, hz⟩ : ∃ z, z = mk % 7 := ⟨_, rfl⟩
  have hz7 : z < 7 := by rw [hz]; exact Nat.mod_lt _ (by decide)
  have hti : (mk : Int).tmod 7 = (z : Int) := by rw [Int.tmod_eq_emod_of_nonneg (by omega), hz]; rfl
  have hti' : (mk : Int) % 7 = (z : Int) := by rw [hz]; rfl
  clear hz
  go_upto_block 0 with fail
  clear hmk hti hti' hmk2
  obtain ⟨z0, z1, z2, z3, z4, z5⟩ := sizes_parts HE.out
  have HZP := Lib.hid (And.intro z0 (And.intro z1 (And.intro z2 (And.intro z3 (And.intro z4 z5)))))
  obtain ⟨lo, hlo⟩ : ∃ v, v = g.lo := ⟨_, rfl⟩
  obtain ⟨hi, hhi⟩ : ∃ v, v = g.hi := ⟨_, rfl⟩
  rw [← hlo] at z0 z1
  rw [← hhi] at z1 z2
  have x0 : w12.cell? ⟨gq, 0, none⟩ = some (.int .i64 lo) := by rw [HQ12.out.cell 0 (by decide), HQ.out, hlo]; rfl
  have x1 : w12.cell? ⟨gq, 1, none⟩ = some (.int .i64 hi) := by rw [HQ12.out.cell 1 (by decide), HQ.out, hhi]; rfl
  have x2 : w12.cell? ⟨gq, 2, none⟩ = some (.slice Qd nd cd) := by rw [HQ12.out.cell 2 (by decide), HQ.out]; rfl
  have x3 : w12.cell? ⟨gq, 3, none⟩ = some (.slice Qt nt ct) := by rw [HQ12.out.cell 3 (by decide), HQ.out]; rfl
  have x4 : w12.cell? ⟨gq, 4, none⟩ = some (.slice Qc ni ci) := by rw [HQ12.out.cell 4 (by decide), HQ.out]; rfl
  have f0 := HQ12.out.frozen 0
  have f1 := HQ12.out.frozen 1
  have f2 := HQ12.out.frozen 2
  have f3 := HQ12.out.frozen 3
  have f4 := HQ12.out.frozen 4
  have HLO := Lib.hid hlo
  have HHI := Lib.hid hhi
  clear hlo hhi
  go_cut [13, 14] (fun s13 s14 wx => ∃ W, W = wx ∧ RefR g w9 gq s13 s14 W)
  case first =>
    have hzc : z = 0 ∨ z = 1 ∨ z = 2 ∨ z = 3 ∨ z = 4 ∨ z = 5 ∨ z = 6 := by omega
    clear hz7
    rcases hzc with rfl | rfl | rfl | rfl | rfl | rfl | rfl
    · have HM := Lib.hid (And.intro hm2 (And.intro z0 (And.intro z1 z2)))
      go_wp2_with fail
      go_meet
      case rel =>
        refine ⟨_, rfl, ⟨⟨hi + 1 + m, g.hi, g.data, g.tabs, g.code⟩, _, _, _, _, _, rfl, rfl, turn_lens (.inr (.inl (by rw [← HHI.out]; omega))), ⟨HS.out.data, HS.out.code, HS.out.tabs, HS.out.bd, HS.out.rng⟩, (HQ12.out.set_ 0 _).congr (fun j hj => ?_), (HO12.out.touch (set_touch HQ12.out) HQ12.out (by decide) (by decide) (by decide)).at_.sized _ _⟩, HB12.out.trans ((set_touch HQ12.out).below HGN.out HB12.out.size)⟩
        rw [HQ.out]
        rcases (show j = 0 ∨ j = 1 ∨ j = 2 ∨ j = 3 ∨ j = 4 by omega) with rfl | rfl | rfl | rfl | rfl <;> rfl
    · go_wp2_with fail
      go_meet
      case rel =>
        refine ⟨_, rfl, ⟨⟨g.lo, 65536 + m, g.data, g.tabs, g.code⟩, _, _, _, _, _, rfl, rfl, turn_lens (.inr (.inr (by omega))), ⟨HS.out.data, HS.out.code, HS.out.tabs, HS.out.bd, HS.out.rng⟩, (HQ12.out.set_ 1 _).congr (fun j hj => ?_), (HO12.out.touch (set_touch HQ12.out) HQ12.out (by decide) (by decide) (by decide)).at_.sized _ _⟩, HB12.out.trans ((set_touch HQ12.out).below HGN.out HB12.out.size)⟩
        rw [HQ.out]
        rcases (show j = 0 ∨ j = 1 ∨ j = 2 ∨ j = 3 ∨ j = 4 by omega) with rfl | rfl | rfl | rfl | rfl <;> rfl
    · go_wp2_with fail
      go_meet
      case rel =>
        refine ⟨_, rfl, ⟨⟨-1 - m, g.hi, g.data, g.tabs, g.code⟩, _, _, _, _, _, rfl, rfl, turn_lens (.inl (by omega)), ⟨HS.out.data, HS.out.code, HS.out.tabs, HS.out.bd, HS.out.rng⟩, (HQ12.out.set_ 0 _).congr (fun j hj => ?_), (HO12.out.touch (set_touch HQ12.out) HQ12.out (by decide) (by decide) (by decide)).at_.sized _ _⟩, HB12.out.trans ((set_touch HQ12.out).below HGN.out HB12.out.size)⟩
        rw [HQ.out]
        rcases (show j = 0 ∨ j = 1 ∨ j = 2 ∨ j = 3 ∨ j = 4 by omega) with rfl | rfl | rfl | rfl | rfl <;> rfl
    · obtain ⟨FT, hFT⟩ : ∃ FT, FT = tabF ((65 + m : Int), (1 : Int)) := ⟨_, rfl⟩
      have HFT := Lib.hid hFT
      have hagg : (#[.int .i64 (65 + m), .int .i64 1] : Array Value) = arr 2 FT := by rw [hFT]; rfl
      have HAG := Lib.hid hagg
      clear hFT hagg
      go_upto_region 25 with fail
      go_wp2_with (first
        | (rw [HAG.out]; refine wpList_slice1_seg rfl 23 69 _ rfl 2 FT (tabF (0, 0)) rfl Tryd.underlying23 zeroTab sizeTab (by decide) (by decide) ?_; intro w13 h13 hB13 hs13; clear hs13; have HO13 := Lib.hid (HO12.out.up hB13); have HQ13 := Lib.hid (HQ12.out.up hB13); have HB13 := Lib.hid (HB12.out.trans (hB13.mono HB12.out.size)); have H13 := Lib.hid h13; clear h13 hB13)
        | (refine append_row 23 69 2 16 tabF (tabF (0, 0)) Tryd.underlying23 infoT (by decide) w13 rfl (.tmp 95) (.tmp 100) rfl w9.heap.size _ g.tabs rfl HO13.out.tabs w12.heap.size ((65 + m : Int), (1 : Int)) rfl (by rw [← HFT.out]; exact H13.out) (tabF_one ((65 + m : Int), (1 : Int))) (by have := HZP.out.2.2.2.1; omega) (by have := HZP.out.2.2.2.1; unfold maxLen; omega) HB13.out.size ?_; intro v14 w14 h14 hB14 hg14; have HQ14 := Lib.hid (show FB w14 gq 33 5 Q from grown_blk HO13.out.tabs hg14 HQ13.out (by decide)); have HD14 := Lib.hid (grown_ownB HO13.out.tabs hg14 HO13.out.data (by decide)); have HC14 := Lib.hid (grown_own HO13.out.tabs hg14 HO13.out.code (by decide)); have HT14 := Lib.hid h14; have HB14 := Lib.hid (HB13.out.trans hB14); clear h14 hB14 hg14; obtain ⟨A14, n14, c14, rfl, -⟩ := OwnR.form HT14.out
           have y3 : w14.cell? ⟨gq, 3, none⟩ = some (.slice Qt nt ct) := by rw [HQ14.out.cell 3 (by decide), HQ.out]; rfl
           have k3 := HQ14.out.frozen 3))
      go_meet
      case rel =>
        refine ⟨_, rfl, ⟨⟨g.lo, g.hi, g.data, g.tabs ++ [((65 + m : Int), (1 : Int))], g.code⟩, _, _, _, _, _, rfl, rfl, turn_tabs HE.out (by unfold okT; rw [decide_eq_false (show ¬ ((65 + m : Int) ≤ 64) by omega)]; simp), ⟨HS.out.data, HS.out.code, by have h := HZP.out.2.2.2.1; show (g.tabs ++ [_]).length ≤ _; rw [List.length_append]; simp; omega, HS.out.bd, HS.out.rng⟩, (HQ14.out.set_ 3 _).congr (fun j hj => ?_), pgAt_of (ownB_touch HD14.out (set_touch HQ14.out) HQ14.out (by decide)) (ownT_touch HT14.out (set_touch HQ14.out) HQ14.out (by decide)) (own_ne HC14.out (set_touch HQ14.out) HQ14.out (by decide))⟩, HB14.out.trans ((set_touch HQ14.out).below HGN.out HB14.out.size)⟩
        rw [HQ.out]
        rcases (show j = 0 ∨ j = 1 ∨ j = 2 ∨ j = 3 ∨ j = 4 by omega) with rfl | rfl | rfl | rfl | rfl <;> rfl
    · obtain ⟨FT, hFT⟩ : ∃ FT, FT = tabF ((1 : Int), (-m : Int)) := ⟨_, rfl⟩
      have HFT := Lib.hid hFT
      have hagg : (#[.int .i64 1, .int .i64 (-m)] : Array Value) = arr 2 FT := by rw [hFT]; rfl
      have HAG := Lib.hid hagg
      clear hFT hagg
      go_upto_region 28 with fail
      go_wp2_with (first
        | (rw [HAG.out]; refine wpList_slice1_seg rfl 23 69 _ rfl 2 FT (tabF (0, 0)) rfl Tryd.underlying23 zeroTab sizeTab (by decide) (by decide) ?_; intro w13 h13 hB13 hs13; clear hs13; have HO13 := Lib.hid (HO12.out.up hB13); have HQ13 := Lib.hid (HQ12.out.up hB13); have HB13 := Lib.hid (HB12.out.trans (hB13.mono HB12.out.size)); have H13 := Lib.hid h13; clear h13 hB13)
        | (refine append_row 23 69 2 16 tabF (tabF (0, 0)) Tryd.underlying23 infoT (by decide) w13 rfl (.tmp 106) (.tmp 111) rfl w9.heap.size _ g.tabs rfl HO13.out.tabs w12.heap.size ((1 : Int), (-m : Int)) rfl (by rw [← HFT.out]; exact H13.out) (tabF_one ((1 : Int), (-m : Int))) (by have := HZP.out.2.2.2.1; omega) (by have := HZP.out.2.2.2.1; unfold maxLen; omega) HB13.out.size ?_; intro v14 w14 h14 hB14 hg14; have HQ14 := Lib.hid (show FB w14 gq 33 5 Q from grown_blk HO13.out.tabs hg14 HQ13.out (by decide)); have HD14 := Lib.hid (grown_ownB HO13.out.tabs hg14 HO13.out.data (by decide)); have HC14 := Lib.hid (grown_own HO13.out.tabs hg14 HO13.out.code (by decide)); have HT14 := Lib.hid h14; have HB14 := Lib.hid (HB13.out.trans hB14); clear h14 hB14 hg14; obtain ⟨A14, n14, c14, rfl, -⟩ := OwnR.form HT14.out
           have y3 : w14.cell? ⟨gq, 3, none⟩ = some (.slice Qt nt ct) := by rw [HQ14.out.cell 3 (by decide), HQ.out]; rfl
           have k3 := HQ14.out.frozen 3))
      go_meet
      case rel =>
        refine ⟨_, rfl, ⟨⟨g.lo, g.hi, g.data, g.tabs ++ [((1 : Int), (-m : Int))], g.code⟩, _, _, _, _, _, rfl, rfl, turn_tabs HE.out (by unfold okT; rw [decide_eq_false (show ¬ ((1 : Int) ≤ -m) by omega)]; simp), ⟨HS.out.data, HS.out.code, by have h := HZP.out.2.2.2.1; show (g.tabs ++ [_]).length ≤ _; rw [List.length_append]; simp; omega, HS.out.bd, HS.out.rng⟩, (HQ14.out.set_ 3 _).congr (fun j hj => ?_), pgAt_of (ownB_touch HD14.out (set_touch HQ14.out) HQ14.out (by decide)) (ownT_touch HT14.out (set_touch HQ14.out) HQ14.out (by decide)) (own_ne HC14.out (set_touch HQ14.out) HQ14.out (by decide))⟩, HB14.out.trans ((set_touch HQ14.out).below HGN.out HB14.out.size)⟩
        rw [HQ.out]
        rcases (show j = 0 ∨ j = 1 ∨ j = 2 ∨ j = 3 ∨ j = 4 by omega) with rfl | rfl | rfl | rfl | rfl <;> rfl
    · obtain ⟨k, hk⟩ : ∃ k : Nat, k = 4097 + m8 := ⟨_, rfl⟩
      have hk1 : 4097 + (m8 : Int) = (k : Int) := by omega
      have hk2 : (m8 : Int) + 4097 = (k : Int) := by omega
      have hmk := run_make_seg (P := Tryd.prog) w12 22 5 1 1 (fun _ => .int .u8 0) k Tryd.underlying22 infoB (by decide) (by omega) (by omega)
      have HSL := Lib.hid (made_sl w12 k)
      have hb13 := below_box w12 (.cells (arr (k * 1) fun q => (fun _ => Value.int .u8 0) (q % 1)) 5)
      obtain ⟨w13, hw13⟩ : ∃ w13, w13 = w12.alloc (.cells (arr (k * 1) fun q => (fun _ => Value.int .u8 0) (q % 1)) 5) := ⟨_, rfl⟩
      rw [← hw13] at hmk hb13 HSL
      have HK := Lib.hid (show 4096 < k ∧ k ≤ 4352 by omega)
      have HQ13 := Lib.hid (HQ12.out.up hb13)
      have HO13 := Lib.hid (HO12.out.up hb13)
      have HB13 := Lib.hid (HB12.out.trans (hb13.mono HB12.out.size))
      have HG13 := Lib.hid (show gq < w12.heap.size from HQ12.out.lt)
      have y2 : w13.cell? ⟨gq, 2, none⟩ = some (.slice Qd nd cd) := by rw [HQ13.out.cell 2 (by decide), HQ.out]; rfl
      have k2 := HQ13.out.frozen 2
      clear hw13 hb13 hk
      go_wp2_with fail
      go_meet
      case rel =>
        refine ⟨_, rfl, ⟨⟨g.lo, g.hi, List.replicate k 0, g.tabs, g.code⟩, _, _, _, _, _, rfl, rfl, turn_data HE.out (by rw [List.length_replicate]; exact HK.out.1), ⟨by show (List.replicate k 0).length ≤ _; rw [List.length_replicate]; have := HK.out; omega, HS.out.code, HS.out.tabs, bytes_zero k, HS.out.rng⟩, (HQ13.out.set_ 2 _).congr (fun j hj => ?_), ⟨⟨some ⟨w12.heap.size, 0, none⟩, k, k, rfl, ⟨HSL.out.len, HSL.out.cap, ?_, ?_⟩⟩, (HO13.out.touch (set_touch HQ13.out) HQ13.out (by decide) (by decide) (by decide)).at_.tabs, (HO13.out.touch (set_touch HQ13.out) HQ13.out (by decide) (by decide) (by decide)).at_.code⟩⟩, HB13.out.trans ((set_touch HQ13.out).below HGN.out HB13.out.size)⟩
        · rw [HQ.out]
          rcases (show j = 0 ∨ j = 1 ∨ j = 2 ∨ j = 3 ∨ j = 4 by omega) with rfl | rfl | rfl | rfl | rfl <;> rfl
        · exact (sl_touch HSL.out (set_touch HQ13.out) (fun b off e => by injection e with e; injection e with e1; subst e1; have := HG13.out; omega)).byt
        · exact (sl_touch HSL.out (set_touch HQ13.out) (fun b off e => by injection e with e; injection e with e1; subst e1; have := HG13.out; omega)).lt
    · by_cases hli : ni < 4096
      case neg =>
        have t1 : (4096 : Int) ≤ (ni : Int) := by omega
        have t2 : decide ((ni : Int) ≥ 4096) = true := decide_eq_true (by omega)
        go_wp2_with fail
        go_ret
        exact ⟨rfl, HB9.out.trans (HB12.out.mono HB9.out.size)⟩
      have t1 : decide ((4096 : Int) ≤ (ni : Int)) = false := decide_eq_false (by omega)
      have t2 : decide ((ni : Int) ≥ 4096) = false := decide_eq_false (by omega)
      have t3 : decide (4096 ≤ ni) = false := decide_eq_false (by omega)
      have hnd : nd ≤ 4096 := by rw [← HND.out.1]; exact z5
      have HLI := Lib.hid hli
      have HM := Lib.hid (And.intro hm2 hnd)
      obtain ⟨FT, hFT⟩ : ∃ FT, FT = insF (dataI ((nd : Int) + 1 + m)) := ⟨_, rfl⟩
      have HFT := Lib.hid hFT
      have HAG := Lib.hid (show (#[.int .i64 21, .bool false, .bool false, .int .i64 0, .int .i64 0, .int .i64 0, .int .i64 0, .int .i64 ((nd : Int) + 1 + m)] : Array Value) = arr 8 FT by rw [hFT]; rfl)
      clear hFT
      go_upto_region 16 with fail
      go_wp2_with (first
        | (rw [HAG.out]; refine wpList_slice1_seg rfl 31 71 _ rfl 8 FT (insF zeroI) rfl Tryd.underlying31 zeroIns sizeIns (by decide) (by decide) ?_; intro w13 h13 hB13 hs13; clear hs13; have HO13 := Lib.hid (HO12.out.up hB13); have HQ13 := Lib.hid (HQ12.out.up hB13); have HB13 := Lib.hid (HB12.out.trans (hB13.mono HB12.out.size)); have H13 := Lib.hid h13; clear h13 hB13)
        | (refine append_row 31 71 8 56 insF (insF zeroI) Tryd.underlying31 infoI (by decide) w13 rfl (.tmp 61) (.tmp 70) rfl w9.heap.size _ g.code rfl HO13.out.code w12.heap.size (dataI ((nd : Int) + 1 + m)) rfl (by rw [← HFT.out]; exact H13.out) (insF_one _) (by have h1 := HLI.out; have h2 := HND.out.2.2; omega) (by have h1 := HLI.out; have h2 := HND.out.2.2; unfold maxLen; omega) HB13.out.size ?_; intro v14 w14 h14 hB14 hg14; have HQ14 := Lib.hid (show FB w14 gq 33 5 Q from grown_blk HO13.out.code hg14 HQ13.out (by decide)); have HD14 := Lib.hid (grown_ownB HO13.out.code hg14 HO13.out.data (by decide)); have HT14 := Lib.hid (grown_own HO13.out.code hg14 HO13.out.tabs (by decide)); have HC14 := Lib.hid h14; have HB14 := Lib.hid (HB13.out.trans hB14); clear h14 hB14 hg14; obtain ⟨A14, n14, c14, rfl, -⟩ := OwnR.form HC14.out
           have y4 : w14.cell? ⟨gq, 4, none⟩ = some (.slice Qc ni ci) := by rw [HQ14.out.cell 4 (by decide), HQ.out]; rfl
           have k4 := HQ14.out.frozen 4))
      go_meet
      case rel =>
        refine ⟨_, rfl, ⟨⟨g.lo, g.hi, g.data, g.tabs, g.code ++ [dataI ((nd : Int) + 1 + m)]⟩, _, _, _, _, _, rfl, by rw [← HND.out.2.2], turn_code HE.out (by rw [HND.out.2.2]; exact HLI.out) (by rw [HND.out.1]; omega) (by have := HM.out; omega), ⟨HS.out.data, by have h1 := HLI.out; have h2 := HND.out.2.2; show (g.code ++ [_]).length ≤ _; rw [List.length_append]; simp; omega, HS.out.tabs, HS.out.bd, fun i hi => ?_⟩, (HQ14.out.set_ 4 _).congr (fun j hj => ?_), pgAt_of (ownB_touch HD14.out (set_touch HQ14.out) HQ14.out (by decide)) (ownT_touch HT14.out (set_touch HQ14.out) HQ14.out (by decide)) (own_ne HC14.out (set_touch HQ14.out) HQ14.out (by decide))⟩, HB14.out.trans ((set_touch HQ14.out).below HGN.out HB14.out.size)⟩
        · rcases List.mem_append.1 hi with h1 | h1
          · exact HS.out.rng i h1
          · rw [List.mem_singleton.1 h1]; have := HM.out; unfold Ins.rng dataI; simp only; omega
        · rw [HQ.out]
          rcases (show j = 0 ∨ j = 1 ∨ j = 2 ∨ j = 3 ∨ j = 4 by omega) with rfl | rfl | rfl | rfl | rfl <;> rfl
  case rest =>
    obtain ⟨w13, hw13, ⟨q, qd, qt, qc, want, at2, rfl, rfl, hTU, hSQ, hFQ, hQA⟩, hBX⟩ := hcut
    subst hw13
    obtain ⟨QF, hQF⟩ : ∃ Y, Y = pkF q.lo q.hi qd qt qc := ⟨_, rfl⟩
    rw [← hQF] at hFQ
    have HQF := Lib.hid hQF
    have HFQ := Lib.hid hFQ
    have HQA := Lib.hid hQA
    have HTU := Lib.hid hTU
    have HSQ := Lib.hid hSQ
    have HBX := Lib.hid hBX
    have HB13 := Lib.hid (HB9.out.trans (hBX.mono HB9.out.size))
    clear hQF hFQ hQA hTU hSQ hBX HO12 HQ12 HQ HND HGN hz7 hm hm8 hm2 hm82 z0 z1 z2 z3 z4 z5 HLO HHI x0 x1 x2 x3 x4 f0 f1 f2 f3 f4 HB12
    go_upto_region 33 with (first
      | (refine wpList_load_all rfl 33 _ rfl gq rfl 33 5 QF _ HFQ.out Tryd.underlying33 rfl sizePg ?_)
      | (go_at_call 22; rw [HQF.out]; refine (copyProgram_any w13 q _ _ _ HQA.out HSQ.out.data HSQ.out.code HSQ.out.tabs).mono ?_; rintro e w14 ⟨ud, ut, uc, rfl, hP14, hB14⟩; have HP14 := Lib.hid hP14; have HB14k := Lib.hid hB14; clear hP14 hB14; rw [← HQF.out]; obtain ⟨Z, hZ⟩ : ∃ Z, Z = pkF q.lo q.hi ud ut uc := ⟨_, rfl⟩; rw [← hZ]; have HZ := Lib.hid hZ; clear hZ)
      | (go_at_call 20; rw [HZ.out]; refine (checkP_any w14 q _ _ _ HP14.out HSQ.out).mono ?_; rintro e w15 ⟨rfl, hB15⟩; rw [← HZ.out, HTU.out.chk]; have HB15k := Lib.hid (HB14k.out.trans (hB15.mono HB14k.out.size)); clear hB15))
    have HFQ15 := Lib.hid (HFQ.out.up HB15k.out)
    have HQA15 := Lib.hid (HQA.out.up HB15k.out)
    have HB15 := Lib.hid (HB13.out.trans (HB15k.out.mono HB13.out.size))
    have HX15 := Lib.hid (HBX.out.trans (HB15k.out.mono HBX.out.size))
    clear HP14 HB14k HZ HFQ HQA HB15k HBX HB13
    go_upto_region 34 with (first
      | (refine wpList_load_all rfl 33 _ rfl gq rfl 33 5 QF _ HFQ15.out Tryd.underlying33 rfl sizePg ?_)
      | (go_at_call 22; rw [HQF.out]; refine (copyProgram_any w15 q _ _ _ HQA15.out HSQ.out.data HSQ.out.code HSQ.out.tabs).mono ?_; rintro e w16 ⟨ud, ut, uc, rfl, hP16, hB16⟩; have HP16 := Lib.hid hP16; have HB16k := Lib.hid hB16; have HB16 := Lib.hid (HB15.out.trans (hB16.mono HB15.out.size)); clear hP16 hB16; rw [← HQF.out]; obtain ⟨Z, hZ⟩ : ∃ Z, Z = pkF q.lo q.hi ud ut uc := ⟨_, rfl⟩; rw [← hZ]; have HZ := Lib.hid hZ; clear hZ)
      | (go_at_call 19; rw [HZ.out]; refine (of_any w16 q _ _ _ HP16.out HSQ.out (HT.out.below HB16.out)).mono ?_; rintro e w17 ⟨hB17, hR⟩; obtain rfl := hR.no (by rw [HTU.out.chk]; exact HTU.out.nz); rw [← HZ.out, HTU.out.chk]; have HB17k := Lib.hid (HB16k.out.trans (hB17.mono HB16k.out.size)); clear hB17 hR)
      | (refine wpList_alloc_seg rfl 25 rfl 5 zeroPkF zeroPk ?_; intro w18 h18 hB18 hs18; clear hs18)
      | (refine wpList_store_all rfl 25 _ _ rfl w17.heap.size 25 5 _ zeroPkF rfl rfl h18 sizePk (pkF_one rfl rfl rfl) ?_; intro w19 h19 hT19 hs19; clear hs19))
    have hb19 : Below w17.heap.size w17 w19 := hB18.trans (hT19.below (Nat.le_refl _) hB18.size)
    have HB19k := Lib.hid (HB17k.out.trans (hb19.mono HB17k.out.size))
    obtain ⟨gz, hgz⟩ : ∃ g, g = w17.heap.size := ⟨_, rfl⟩
    rw [← hgz]
    have HFQ19 := Lib.hid (HFQ15.out.up HB19k.out)
    have HQA19 := Lib.hid (HQA15.out.up HB19k.out)
    have HB19 := Lib.hid (HB15.out.trans (HB19k.out.mono HB15.out.size))
    have HX19 := Lib.hid (HX15.out.trans (HB19k.out.mono HX15.out.size))
    clear h18 hB18 h19 hT19 hb19 hgz HP16 HB16k HB16 HZ HB17k HB19k HFQ15 HQA15 HB15 HX15
    obtain ⟨⟨Dd, md, dd, hqd, hDd⟩, ⟨Dt, mt, dt, hqt, hDt⟩, -⟩ := HQA19.out
    have HDd := Lib.hid hDd
    have HDt := Lib.hid hDt
    have HFP := Lib.hid (HF9.out.up HX19.out)
    have HKP := Lib.hid (HK9.out.up HX19.out)
    have HSP := Lib.hid (HSC9.out.up HX19.out)
    have HMD := Lib.hid (show md ≤ 140737488355328 ∧ mt ≤ 8796093022208 ∧ nc ≤ 140737488355328 from ⟨by have h1 := hDd.len.out; have h2 := HSQ.out.data; omega, by have h1 := hDt.len.out; have h2 := HSQ.out.tabs; omega, by have h2 := HSK.out.code; have h3 : (encB g.code).length ≤ 140737488355328 := h2; have h4 : (encB g.code).length = nc := HSP.out.len.out; omega⟩)
    have HQ2 := Lib.hid (show QF 2 = .slice Dd md dd by rw [HQF.out]; exact hqd)
    have HQ3 := Lib.hid (show QF 3 = .slice Dt mt dt by rw [HQF.out]; exact hqt)
    have HQ0 := Lib.hid (show QF 0 = .int .i64 q.lo ∧ QF 1 = .int .i64 q.hi by rw [HQF.out]; exact ⟨rfl, rfl⟩)
    have HF4 := Lib.hid (show F 4 = .slice Ac nc cc by rw [HF.out]; rfl)
    clear hqd hqt hDd hDt HQA19
    go_upto_region 36 with fail
    go_cut [21] (fun s21 wx => ∃ W, W = wx ∧ RcS g q gp F w19 s21 W)
    case first =>
      refine wp_region_held_drew (S := fun W => RgS gq gp QF F W) (by kernel_rfl) ⟨HFQ19.out.drewN 1, HFP.out.drewN 1⟩ (fun hHeld => ?_)
      refine wpAnyH_take (i := 0) (oi := { dst := some 156, op := Op.fieldAddr 33 (Operand.tmp 12) 0, type := 0, pos := "outright.go:166", after := #[], guard := none }) (v := .pointer (some ⟨gq, 0, none⟩)) rfl (by kernel_rfl) (by kernel_rfl) (by kernel_rfl) (fun _ _ _ h => h) (Or.inl ⟨by rfl, ?_⟩) (by assumption) ?_
      · intro w hSw
        go_simp
      try simp only [Act.put, List.setIfInBounds_toArray, List.set_cons_zero, List.set_cons_succ]
      refine wpAnyH_take (i := 1) (oi := { dst := some 157, op := Op.load 3 (Operand.tmp 156), type := 3, pos := "outright.go:166", after := #[{ on := 0, ground := Ground.data }], guard := none }) (v := .int .i64 q.lo) rfl (by kernel_rfl) (by kernel_rfl) (by kernel_rfl) (fun _ _ _ h => h) (Or.inl ⟨by rfl, ?_⟩) (by assumption) ?_
      · intro w hSw
        have q0 : w.cell? ⟨gq, 0, none⟩ = some (.int .i64 q.lo) := by rw [hSw.q.cell 0 (by decide), HQ0.out.1]
        go_simp
      try simp only [Act.put, List.setIfInBounds_toArray, List.set_cons_zero, List.set_cons_succ]
      refine wpAnyH_take (i := 2) (oi := { dst := some 158, op := Op.fieldAddr 33 (Operand.tmp 12) 1, type := 0, pos := "outright.go:166", after := #[], guard := none }) (v := .pointer (some ⟨gq, 1, none⟩)) rfl (by kernel_rfl) (by kernel_rfl) (by kernel_rfl) (fun _ _ _ h => h) (Or.inl ⟨by rfl, ?_⟩) (by assumption) ?_
      · intro w hSw
        go_simp
      try simp only [Act.put, List.setIfInBounds_toArray, List.set_cons_zero, List.set_cons_succ]
      refine wpAnyH_take (i := 3) (oi := { dst := some 159, op := Op.load 3 (Operand.tmp 158), type := 3, pos := "outright.go:166", after := #[{ on := 2, ground := Ground.data }], guard := none }) (v := .int .i64 q.hi) rfl (by kernel_rfl) (by kernel_rfl) (by kernel_rfl) (fun _ _ _ h => h) (Or.inl ⟨by rfl, ?_⟩) (by assumption) ?_
      · intro w hSw
        have q0 : w.cell? ⟨gq, 1, none⟩ = some (.int .i64 q.hi) := by rw [hSw.q.cell 1 (by decide), HQ0.out.2]
        go_simp
      try simp only [Act.put, List.setIfInBounds_toArray, List.set_cons_zero, List.set_cons_succ]
      refine wpAnyH_take (i := 4) (oi := { dst := some 160, op := Op.fieldAddr 33 (Operand.tmp 12) 2, type := 0, pos := "outright.go:166", after := #[], guard := none }) (v := .pointer (some ⟨gq, 2, none⟩)) rfl (by kernel_rfl) (by kernel_rfl) (by kernel_rfl) (fun _ _ _ h => h) (Or.inl ⟨by rfl, ?_⟩) (by assumption) ?_
      · intro w hSw
        go_simp
      try simp only [Act.put, List.setIfInBounds_toArray, List.set_cons_zero, List.set_cons_succ]
      refine wpAnyH_take (i := 5) (oi := { dst := some 161, op := Op.load 22 (Operand.tmp 160), type := 22, pos := "outright.go:166", after := #[{ on := 4, ground := Ground.data }], guard := none }) (v := .slice Dd md dd) rfl (by kernel_rfl) (by kernel_rfl) (by kernel_rfl) (fun _ _ _ h => h) (Or.inl ⟨by rfl, ?_⟩) (by assumption) ?_
      · intro w hSw
        have q0 : w.cell? ⟨gq, 2, none⟩ = some (.slice Dd md dd) := by rw [hSw.q.cell 2 (by decide), HQ2.out]
        go_simp
      try simp only [Act.put, List.setIfInBounds_toArray, List.set_cons_zero, List.set_cons_succ]
      refine wpAnyH_take (i := 7) (oi := { dst := some 163, op := Op.fieldAddr 33 (Operand.tmp 12) 3, type := 0, pos := "outright.go:166", after := #[], guard := none }) (v := .pointer (some ⟨gq, 3, none⟩)) rfl (by kernel_rfl) (by kernel_rfl) (by kernel_rfl) (fun _ _ _ h => h) (Or.inl ⟨by rfl, ?_⟩) (by assumption) ?_
      · intro w hSw
        go_simp
      try simp only [Act.put, List.setIfInBounds_toArray, List.set_cons_zero, List.set_cons_succ]
      refine wpAnyH_take (i := 8) (oi := { dst := some 164, op := Op.load 23 (Operand.tmp 163), type := 23, pos := "outright.go:166", after := #[{ on := 7, ground := Ground.data }], guard := none }) (v := .slice Dt mt dt) rfl (by kernel_rfl) (by kernel_rfl) (by kernel_rfl) (fun _ _ _ h => h) (Or.inl ⟨by rfl, ?_⟩) (by assumption) ?_
      · intro w hSw
        have q0 : w.cell? ⟨gq, 3, none⟩ = some (.slice Dt mt dt) := by rw [hSw.q.cell 3 (by decide), HQ3.out]
        go_simp
      try simp only [Act.put, List.setIfInBounds_toArray, List.set_cons_zero, List.set_cons_succ]
      refine wpAnyH_take (i := 10) (oi := { dst := some 166, op := Op.fieldAddr 25 (Operand.tmp 9) 4, type := 0, pos := "outright.go:166", after := #[], guard := none }) (v := .pointer (some ⟨gp, 4, none⟩)) rfl (by kernel_rfl) (by kernel_rfl) (by kernel_rfl) (fun _ _ _ h => h) (Or.inl ⟨by rfl, ?_⟩) (by assumption) ?_
      · intro w hSw
        go_simp
      try simp only [Act.put, List.setIfInBounds_toArray, List.set_cons_zero, List.set_cons_succ]
      refine wpAnyH_take (i := 11) (oi := { dst := some 167, op := Op.load 22 (Operand.tmp 166), type := 22, pos := "outright.go:166", after := #[{ on := 10, ground := Ground.data }], guard := none }) (v := .slice Ac nc cc) rfl (by kernel_rfl) (by kernel_rfl) (by kernel_rfl) (fun _ _ _ h => h) (Or.inl ⟨by rfl, ?_⟩) (by assumption) ?_
      · intro w hSw
        have q0 : w.cell? ⟨gp, 4, none⟩ = some (.slice Ac nc cc) := by rw [hSw.k.cell 4 (by decide), HF4.out]
        go_simp
      try simp only [Act.put, List.setIfInBounds_toArray, List.set_cons_zero, List.set_cons_succ]
      have HBd := Lib.hid (show Below w19.heap.size w19 w19.drew from below_drewN (Below.refl _ _) 1)
      have HSd := Lib.hid (show RgS gq gp QF F w19.drew from ⟨HFQ19.out.drewN 1, HFP.out.drewN 1⟩)
      clear hHeld
      refine wpAnyH_ready (rs := [6, 14]) (by kernel_rfl) (by simp) ?_
      refine AllReadyH.cons (o := { dst := some 162, op := Op.call { callee := Callee.value (Operand.func 27), args := #[Operand.tmp 161], argTypes := #[22] }, type := 22, pos := "outright.go:166", after := #[{ on := 5, ground := Ground.data }], guard := none }) rfl ?_ ?_
      rotate_left
      refine AllReadyH.cons (o := { dst := some 21, op := Op.alloc 25, type := 0, pos := "outright.go:166", after := #[], guard := none }) rfl ?_ ?_
      rotate_left
      · exact AllReadyH.nil
      · intro K hK
        go_simp
        go_at_call 27
        refine (copyBytes_own w19.drew Dd md dd q.data (HDd.out.up HBd.out) HMD.out.1).mono ?_
        rintro e wda ⟨v6, rfl, hO, hB⟩
        have HO6da := Lib.hid (OwnB_base (base' := w19.heap.size) hO HBd.out.size)
        clear hO
        obtain ⟨A6, n6, c6, rfl, -⟩ := own_full HO6da.out
        have HSda := Lib.hid (show RgS gq gp QF F wda from ⟨HSd.out.q.up hB, HSd.out.k.up hB⟩)
        have HBda := Lib.hid (HBd.out.trans (hB.mono HBd.out.size))
        clear hB
        go_simp
        refine hK.out _ _ HSda.out (fun hHeld => ?_)
        clear hK K hHeld
        try simp only [Act.put, List.setIfInBounds_toArray, List.set_cons_zero, List.set_cons_succ]
        refine wpAnyH_ready (rs := [9, 14]) (by kernel_rfl) (by simp) ?_
        refine AllReadyH.cons (o := { dst := some 165, op := Op.call { callee := Callee.value (Operand.func 10), args := #[Operand.tmp 164], argTypes := #[23] }, type := 23, pos := "outright.go:166", after := #[{ on := 8, ground := Ground.data }, { on := 6, ground := Ground.chain }], guard := none }) rfl ?_ ?_
        rotate_left
        refine AllReadyH.cons (o := { dst := some 21, op := Op.alloc 25, type := 0, pos := "outright.go:166", after := #[], guard := none }) rfl ?_ ?_
        rotate_left
        · exact AllReadyH.nil
        · intro K hK
          go_simp
          go_at_call 10
          refine (copyTables_own wda Dt mt dt q.tabs (HDt.out.up HBda.out) HMD.out.2.1).mono ?_
          rintro e wdab ⟨v9, rfl, hO, hB⟩
          have HO9dab := Lib.hid (ownR_base (base' := w19.heap.size) hO HBda.out.size)
          clear hO
          obtain ⟨A9, n9, c9, rfl, -⟩ := OwnR.form HO9dab.out
          have HSdab := Lib.hid (show RgS gq gp QF F wdab from ⟨HSda.out.q.up hB, HSda.out.k.up hB⟩)
          have HBdab := Lib.hid (HBda.out.trans (hB.mono HBda.out.size))
          have HO6dab := Lib.hid (ownB_up HO6da.out hB)
          clear hB
          go_simp
          refine hK.out _ _ HSdab.out (fun hHeld => ?_)
          clear hK K hHeld
          try simp only [Act.put, List.setIfInBounds_toArray, List.set_cons_zero, List.set_cons_succ]
          refine wpAnyH_ready (rs := [12, 14]) (by kernel_rfl) (by simp) ?_
          refine AllReadyH.cons (o := { dst := some 168, op := Op.call { callee := Callee.value (Operand.func 27), args := #[Operand.tmp 167], argTypes := #[22] }, type := 22, pos := "outright.go:166", after := #[{ on := 11, ground := Ground.data }, { on := 9, ground := Ground.chain }], guard := none }) rfl ?_ ?_
          rotate_left
          refine AllReadyH.cons (o := { dst := some 21, op := Op.alloc 25, type := 0, pos := "outright.go:166", after := #[], guard := none }) rfl ?_ ?_
          rotate_left
          · exact AllReadyH.nil
          · intro K hK
            go_simp
            go_at_call 27
            refine (copyBytes_own wdab Ac nc cc (encB g.code) (HSP.out.up HBdab.out) HMD.out.2.2).mono ?_
            rintro e wdabc ⟨v12, rfl, hO, hB⟩
            have HO12dabc := Lib.hid (OwnB_base (base' := w19.heap.size) hO HBdab.out.size)
            clear hO
            obtain ⟨A12, n12, c12, rfl, -⟩ := own_full HO12dabc.out
            have HSdabc := Lib.hid (show RgS gq gp QF F wdabc from ⟨HSdab.out.q.up hB, HSdab.out.k.up hB⟩)
            have HBdabc := Lib.hid (HBdab.out.trans (hB.mono HBdab.out.size))
            have HO9dabc := Lib.hid (HO9dab.out.up hB)
            have HO6dabc := Lib.hid (ownB_up HO6dab.out hB)
            clear hB
            go_simp
            refine hK.out _ _ HSdabc.out (fun hHeld => ?_)
            clear hK K hHeld
            try simp only [Act.put, List.setIfInBounds_toArray, List.set_cons_zero, List.set_cons_succ]
            have hHeld := HSdabc.out
            refine wpAnyH_take (i := 13) (oi := { dst := some 169, op := Op.build 25 #[(0, Operand.tmp 157), (1, Operand.tmp 159), (2, Operand.tmp 162), (3, Operand.tmp 165), (4, Operand.tmp 168)], type := 25, pos := "outright.go:166", after := #[{ on := 1, ground := Ground.data }, { on := 3, ground := Ground.data }, { on := 6, ground := Ground.data }, { on := 9, ground := Ground.data }, { on := 12, ground := Ground.data }], guard := none }) (v := .agg #[.int .i64 q.lo, .int .i64 q.hi, .slice A6 n6 c6, .slice A9 n9 c9, .slice A12 n12 c12]) rfl (by kernel_rfl) (by kernel_rfl) (by kernel_rfl) (fun _ _ _ h => h) (Or.inl ⟨by rfl, ?_⟩) (by assumption) ?_
            · intro w hSw
              go_simp
            try simp only [Act.put, List.setIfInBounds_toArray, List.set_cons_zero, List.set_cons_succ]
            clear hHeld
            refine wpAnyH_ready (rs := [14]) (by kernel_rfl) (by simp) ?_
            refine AllReadyH.cons (o := { dst := some 21, op := Op.alloc 25, type := 0, pos := "outright.go:166", after := #[], guard := none }) rfl ?_ ?_
            rotate_left
            · exact AllReadyH.nil
            intro K hK
            refine step_alloc_seg (by rfl) 25 rfl 5 zeroPkF zeroPk ?_
            intro wdabce hC hB hs
            obtain ⟨gc, hgc⟩ : ∃ g, g = wdabc.heap.size := ⟨_, rfl⟩
            have HNE := Lib.hid (show gq ≠ gc ∧ gp ≠ gc ∧ w19.heap.size ≤ gc from ⟨by have := HSdabc.out.q.lt; omega, by have := HSdabc.out.k.lt; omega, by have := HBdabc.out.size; omega⟩)
            rw [← hgc] at hC ⊢
            have HGdabce := Lib.hid hC
            clear hs hgc hC
            have HSdabce := Lib.hid (show RgS gq gp QF F wdabce from ⟨HSdabc.out.q.up hB, HSdabc.out.k.up hB⟩)
            have HBdabce := Lib.hid (HBdabc.out.trans (hB.mono HBdabc.out.size))
            have HO9dabce := Lib.hid (HO9dabc.out.up hB)
            have HO12dabce := Lib.hid (ownB_up HO12dabc.out hB)
            have HO6dabce := Lib.hid (ownB_up HO6dabc.out hB)
            clear hB
            refine hK.out _ _ HSdabce.out (fun hHeld => ?_)
            clear hK K hHeld
            try simp only [Act.put, List.setIfInBounds_toArray, List.set_cons_zero, List.set_cons_succ]
            refine wpAnyH_ready (rs := [15]) (by kernel_rfl) (by simp) ?_
            refine AllReadyH.cons (o := { dst := none, op := Op.store 25 (Operand.tmp 21) (Operand.tmp 169), type := 0, pos := "outright.go:166", after := #[{ on := 14, ground := Ground.data }, { on := 13, ground := Ground.data }, { on := 12, ground := Ground.chain }, { on := 0, ground := Ground.phase }, { on := 1, ground := Ground.phase }, { on := 2, ground := Ground.phase }, { on := 3, ground := Ground.phase }, { on := 4, ground := Ground.phase }, { on := 5, ground := Ground.phase }, { on := 6, ground := Ground.phase }, { on := 7, ground := Ground.phase }, { on := 8, ground := Ground.phase }, { on := 9, ground := Ground.phase }, { on := 10, ground := Ground.phase }, { on := 11, ground := Ground.phase }, { on := 12, ground := Ground.phase }, { on := 13, ground := Ground.phase }, { on := 14, ground := Ground.phase }], guard := none }) rfl ?_ ?_
            rotate_left
            · exact AllReadyH.nil
            intro K hK
            refine step_store_seg (by rfl) 25 _ _ rfl gc 0 25 5 5 zeroPkF (pkF q.lo q.hi (.slice A6 n6 c6) (.slice A9 n9 c9) (.slice A12 n12 c12)) rfl rfl HGdabce.out (by omega) sizePk (pkF_one rfl rfl rfl) ?_
            intro wz hz hTz hsz
            have Hz := Lib.hid (show FB wz gc 25 5 (pkF q.lo q.hi (.slice A6 n6 c6) (.slice A9 n9 c9) (.slice A12 n12 c12)) from hz.congr fun q hq => by unfold updR; rw [if_pos (by omega), Nat.sub_zero])
            have HSz := Lib.hid (show RgS gq gp QF F wz from ⟨HSdabce.out.q.touch hTz HNE.out.1, HSdabce.out.k.touch hTz HNE.out.2.1⟩)
            have HPz := Lib.hid (show PkAt wz (.slice A6 n6 c6) (.slice A9 n9 c9) (.slice A12 n12 c12) (contK g q) from pkAt_of (k := contK g q) (ownB_touch HO6dabce.out hTz HGdabce.out (by decide)) (ownT_touch HO9dabce.out hTz HGdabce.out (by decide)) (ownB_touch HO12dabce.out hTz HGdabce.out (by decide)))
            have HBz := Lib.hid (show Below w19.heap.size w19 wz from HBdabce.out.trans (hTz.below HNE.out.2.2 HBdabce.out.size))
            clear hz hTz hsz
            refine hK.out _ _ HSz.out (fun hHeld => ?_)
            clear hK K
            try simp only [Act.put, List.setIfInBounds_toArray, List.set_cons_zero, List.set_cons_succ]
            clear hHeld
            refine wpAnyH_done (by kernel_rfl) ?_ _
            go_wp2_with fail
            go_meet
            case rel => exact ⟨_, rfl, ⟨gc, _, _, _, rfl, Hz.out, HPz.out, HNE.out.2.1, HNE.out.2.2⟩, HSz.out.k, HBz.out⟩
          · intro K hK
            refine step_alloc_seg (by rfl) 25 rfl 5 zeroPkF zeroPk ?_
            intro wdabe hC hB hs
            obtain ⟨gc, hgc⟩ : ∃ g, g = wdab.heap.size := ⟨_, rfl⟩
            have HNE := Lib.hid (show gq ≠ gc ∧ gp ≠ gc ∧ w19.heap.size ≤ gc from ⟨by have := HSdab.out.q.lt; omega, by have := HSdab.out.k.lt; omega, by have := HBdab.out.size; omega⟩)
            rw [← hgc] at hC ⊢
            have HGdabe := Lib.hid hC
            clear hs hgc hC
            have HSdabe := Lib.hid (show RgS gq gp QF F wdabe from ⟨HSdab.out.q.up hB, HSdab.out.k.up hB⟩)
            have HBdabe := Lib.hid (HBdab.out.trans (hB.mono HBdab.out.size))
            have HO9dabe := Lib.hid (HO9dab.out.up hB)
            have HO6dabe := Lib.hid (ownB_up HO6dab.out hB)
            clear hB
            refine hK.out _ _ HSdabe.out (fun hHeld => ?_)
            clear hK K hHeld
            try simp only [Act.put, List.setIfInBounds_toArray, List.set_cons_zero, List.set_cons_succ]
            refine wpAnyH_ready (rs := [12]) (by kernel_rfl) (by simp) ?_
            refine AllReadyH.cons (o := { dst := some 168, op := Op.call { callee := Callee.value (Operand.func 27), args := #[Operand.tmp 167], argTypes := #[22] }, type := 22, pos := "outright.go:166", after := #[{ on := 11, ground := Ground.data }, { on := 9, ground := Ground.chain }], guard := none }) rfl ?_ ?_
            rotate_left
            · exact AllReadyH.nil
            intro K hK
            go_simp
            go_at_call 27
            refine (copyBytes_own wdabe Ac nc cc (encB g.code) (HSP.out.up HBdabe.out) HMD.out.2.2).mono ?_
            rintro e wdabec ⟨v12, rfl, hO, hB⟩
            have HO12dabec := Lib.hid (OwnB_base (base' := w19.heap.size) hO HBdabe.out.size)
            clear hO
            obtain ⟨A12, n12, c12, rfl, -⟩ := own_full HO12dabec.out
            have HSdabec := Lib.hid (show RgS gq gp QF F wdabec from ⟨HSdabe.out.q.up hB, HSdabe.out.k.up hB⟩)
            have HBdabec := Lib.hid (HBdabe.out.trans (hB.mono HBdabe.out.size))
            have HO9dabec := Lib.hid (HO9dabe.out.up hB)
            have HO6dabec := Lib.hid (ownB_up HO6dabe.out hB)
            have HGdabec := Lib.hid (HGdabe.out.up hB)
            clear hB
            go_simp
            refine hK.out _ _ HSdabec.out (fun hHeld => ?_)
            clear hK K hHeld
            try simp only [Act.put, List.setIfInBounds_toArray, List.set_cons_zero, List.set_cons_succ]
            have hHeld := HSdabec.out
            refine wpAnyH_take (i := 13) (oi := { dst := some 169, op := Op.build 25 #[(0, Operand.tmp 157), (1, Operand.tmp 159), (2, Operand.tmp 162), (3, Operand.tmp 165), (4, Operand.tmp 168)], type := 25, pos := "outright.go:166", after := #[{ on := 1, ground := Ground.data }, { on := 3, ground := Ground.data }, { on := 6, ground := Ground.data }, { on := 9, ground := Ground.data }, { on := 12, ground := Ground.data }], guard := none }) (v := .agg #[.int .i64 q.lo, .int .i64 q.hi, .slice A6 n6 c6, .slice A9 n9 c9, .slice A12 n12 c12]) rfl (by kernel_rfl) (by kernel_rfl) (by kernel_rfl) (fun _ _ _ h => h) (Or.inl ⟨by rfl, ?_⟩) (by assumption) ?_
            · intro w hSw
              go_simp
            try simp only [Act.put, List.setIfInBounds_toArray, List.set_cons_zero, List.set_cons_succ]
            clear hHeld
            refine wpAnyH_ready (rs := [15]) (by kernel_rfl) (by simp) ?_
            refine AllReadyH.cons (o := { dst := none, op := Op.store 25 (Operand.tmp 21) (Operand.tmp 169), type := 0, pos := "outright.go:166", after := #[{ on := 14, ground := Ground.data }, { on := 13, ground := Ground.data }, { on := 12, ground := Ground.chain }, { on := 0, ground := Ground.phase }, { on := 1, ground := Ground.phase }, { on := 2, ground := Ground.phase }, { on := 3, ground := Ground.phase }, { on := 4, ground := Ground.phase }, { on := 5, ground := Ground.phase }, { on := 6, ground := Ground.phase }, { on := 7, ground := Ground.phase }, { on := 8, ground := Ground.phase }, { on := 9, ground := Ground.phase }, { on := 10, ground := Ground.phase }, { on := 11, ground := Ground.phase }, { on := 12, ground := Ground.phase }, { on := 13, ground := Ground.phase }, { on := 14, ground := Ground.phase }], guard := none }) rfl ?_ ?_
            rotate_left
            · exact AllReadyH.nil
            intro K hK
            refine step_store_seg (by rfl) 25 _ _ rfl gc 0 25 5 5 zeroPkF (pkF q.lo q.hi (.slice A6 n6 c6) (.slice A9 n9 c9) (.slice A12 n12 c12)) rfl rfl HGdabec.out (by omega) sizePk (pkF_one rfl rfl rfl) ?_
            intro wz hz hTz hsz
            have Hz := Lib.hid (show FB wz gc 25 5 (pkF q.lo q.hi (.slice A6 n6 c6) (.slice A9 n9 c9) (.slice A12 n12 c12)) from hz.congr fun q hq => by unfold updR; rw [if_pos (by omega), Nat.sub_zero])
            have HSz := Lib.hid (show RgS gq gp QF F wz from ⟨HSdabec.out.q.touch hTz HNE.out.1, HSdabec.out.k.touch hTz HNE.out.2.1⟩)
            have HPz := Lib.hid (show PkAt wz (.slice A6 n6 c6) (.slice A9 n9 c9) (.slice A12 n12 c12) (contK g q) from pkAt_of (k := contK g q) (ownB_touch HO6dabec.out hTz HGdabec.out (by decide)) (ownT_touch HO9dabec.out hTz HGdabec.out (by decide)) (ownB_touch HO12dabec.out hTz HGdabec.out (by decide)))
            have HBz := Lib.hid (show Below w19.heap.size w19 wz from HBdabec.out.trans (hTz.below HNE.out.2.2 HBdabec.out.size))
            clear hz hTz hsz
            refine hK.out _ _ HSz.out (fun hHeld => ?_)
            clear hK K
            try simp only [Act.put, List.setIfInBounds_toArray, List.set_cons_zero, List.set_cons_succ]
            clear hHeld
            refine wpAnyH_done (by kernel_rfl) ?_ _
            go_wp2_with fail
            go_meet
            case rel => exact ⟨_, rfl, ⟨gc, _, _, _, rfl, Hz.out, HPz.out, HNE.out.2.1, HNE.out.2.2⟩, HSz.out.k, HBz.out⟩
        · intro K hK
          refine step_alloc_seg (by rfl) 25 rfl 5 zeroPkF zeroPk ?_
          intro wdae hC hB hs
          obtain ⟨gc, hgc⟩ : ∃ g, g = wda.heap.size := ⟨_, rfl⟩
          have HNE := Lib.hid (show gq ≠ gc ∧ gp ≠ gc ∧ w19.heap.size ≤ gc from ⟨by have := HSda.out.q.lt; omega, by have := HSda.out.k.lt; omega, by have := HBda.out.size; omega⟩)
          rw [← hgc] at hC ⊢
          have HGdae := Lib.hid hC
          clear hs hgc hC
          have HSdae := Lib.hid (show RgS gq gp QF F wdae from ⟨HSda.out.q.up hB, HSda.out.k.up hB⟩)
          have HBdae := Lib.hid (HBda.out.trans (hB.mono HBda.out.size))
          have HO6dae := Lib.hid (ownB_up HO6da.out hB)
          clear hB
          refine hK.out _ _ HSdae.out (fun hHeld => ?_)
          clear hK K hHeld
          try simp only [Act.put, List.setIfInBounds_toArray, List.set_cons_zero, List.set_cons_succ]
          refine wpAnyH_ready (rs := [9]) (by kernel_rfl) (by simp) ?_
          refine AllReadyH.cons (o := { dst := some 165, op := Op.call { callee := Callee.value (Operand.func 10), args := #[Operand.tmp 164], argTypes := #[23] }, type := 23, pos := "outright.go:166", after := #[{ on := 8, ground := Ground.data }, { on := 6, ground := Ground.chain }], guard := none }) rfl ?_ ?_
          rotate_left
          · exact AllReadyH.nil
          intro K hK
          go_simp
          go_at_call 10
          refine (copyTables_own wdae Dt mt dt q.tabs (HDt.out.up HBdae.out) HMD.out.2.1).mono ?_
          rintro e wdaeb ⟨v9, rfl, hO, hB⟩
          have HO9daeb := Lib.hid (ownR_base (base' := w19.heap.size) hO HBdae.out.size)
          clear hO
          obtain ⟨A9, n9, c9, rfl, -⟩ := OwnR.form HO9daeb.out
          have HSdaeb := Lib.hid (show RgS gq gp QF F wdaeb from ⟨HSdae.out.q.up hB, HSdae.out.k.up hB⟩)
          have HBdaeb := Lib.hid (HBdae.out.trans (hB.mono HBdae.out.size))
          have HO6daeb := Lib.hid (ownB_up HO6dae.out hB)
          have HGdaeb := Lib.hid (HGdae.out.up hB)
          clear hB
          go_simp
          refine hK.out _ _ HSdaeb.out (fun hHeld => ?_)
          clear hK K hHeld
          try simp only [Act.put, List.setIfInBounds_toArray, List.set_cons_zero, List.set_cons_succ]
          refine wpAnyH_ready (rs := [12]) (by kernel_rfl) (by simp) ?_
          refine AllReadyH.cons (o := { dst := some 168, op := Op.call { callee := Callee.value (Operand.func 27), args := #[Operand.tmp 167], argTypes := #[22] }, type := 22, pos := "outright.go:166", after := #[{ on := 11, ground := Ground.data }, { on := 9, ground := Ground.chain }], guard := none }) rfl ?_ ?_
          rotate_left
          · exact AllReadyH.nil
          intro K hK
          go_simp
          go_at_call 27
          refine (copyBytes_own wdaeb Ac nc cc (encB g.code) (HSP.out.up HBdaeb.out) HMD.out.2.2).mono ?_
          rintro e wdaebc ⟨v12, rfl, hO, hB⟩
          have HO12daebc := Lib.hid (OwnB_base (base' := w19.heap.size) hO HBdaeb.out.size)
          clear hO
          obtain ⟨A12, n12, c12, rfl, -⟩ := own_full HO12daebc.out
          have HSdaebc := Lib.hid (show RgS gq gp QF F wdaebc from ⟨HSdaeb.out.q.up hB, HSdaeb.out.k.up hB⟩)
          have HBdaebc := Lib.hid (HBdaeb.out.trans (hB.mono HBdaeb.out.size))
          have HO9daebc := Lib.hid (HO9daeb.out.up hB)
          have HO6daebc := Lib.hid (ownB_up HO6daeb.out hB)
          have HGdaebc := Lib.hid (HGdaeb.out.up hB)
          clear hB
          go_simp
          refine hK.out _ _ HSdaebc.out (fun hHeld => ?_)
          clear hK K hHeld
          try simp only [Act.put, List.setIfInBounds_toArray, List.set_cons_zero, List.set_cons_succ]
          have hHeld := HSdaebc.out
          refine wpAnyH_take (i := 13) (oi := { dst := some 169, op := Op.build 25 #[(0, Operand.tmp 157), (1, Operand.tmp 159), (2, Operand.tmp 162), (3, Operand.tmp 165), (4, Operand.tmp 168)], type := 25, pos := "outright.go:166", after := #[{ on := 1, ground := Ground.data }, { on := 3, ground := Ground.data }, { on := 6, ground := Ground.data }, { on := 9, ground := Ground.data }, { on := 12, ground := Ground.data }], guard := none }) (v := .agg #[.int .i64 q.lo, .int .i64 q.hi, .slice A6 n6 c6, .slice A9 n9 c9, .slice A12 n12 c12]) rfl (by kernel_rfl) (by kernel_rfl) (by kernel_rfl) (fun _ _ _ h => h) (Or.inl ⟨by rfl, ?_⟩) (by assumption) ?_
          · intro w hSw
            go_simp
          try simp only [Act.put, List.setIfInBounds_toArray, List.set_cons_zero, List.set_cons_succ]
          clear hHeld
          refine wpAnyH_ready (rs := [15]) (by kernel_rfl) (by simp) ?_
          refine AllReadyH.cons (o := { dst := none, op := Op.store 25 (Operand.tmp 21) (Operand.tmp 169), type := 0, pos := "outright.go:166", after := #[{ on := 14, ground := Ground.data }, { on := 13, ground := Ground.data }, { on := 12, ground := Ground.chain }, { on := 0, ground := Ground.phase }, { on := 1, ground := Ground.phase }, { on := 2, ground := Ground.phase }, { on := 3, ground := Ground.phase }, { on := 4, ground := Ground.phase }, { on := 5, ground := Ground.phase }, { on := 6, ground := Ground.phase }, { on := 7, ground := Ground.phase }, { on := 8, ground := Ground.phase }, { on := 9, ground := Ground.phase }, { on := 10, ground := Ground.phase }, { on := 11, ground := Ground.phase }, { on := 12, ground := Ground.phase }, { on := 13, ground := Ground.phase }, { on := 14, ground := Ground.phase }], guard := none }) rfl ?_ ?_
          rotate_left
          · exact AllReadyH.nil
          intro K hK
          refine step_store_seg (by rfl) 25 _ _ rfl gc 0 25 5 5 zeroPkF (pkF q.lo q.hi (.slice A6 n6 c6) (.slice A9 n9 c9) (.slice A12 n12 c12)) rfl rfl HGdaebc.out (by omega) sizePk (pkF_one rfl rfl rfl) ?_
          intro wz hz hTz hsz
          have Hz := Lib.hid (show FB wz gc 25 5 (pkF q.lo q.hi (.slice A6 n6 c6) (.slice A9 n9 c9) (.slice A12 n12 c12)) from hz.congr fun q hq => by unfold updR; rw [if_pos (by omega), Nat.sub_zero])
          have HSz := Lib.hid (show RgS gq gp QF F wz from ⟨HSdaebc.out.q.touch hTz HNE.out.1, HSdaebc.out.k.touch hTz HNE.out.2.1⟩)
          have HPz := Lib.hid (show PkAt wz (.slice A6 n6 c6) (.slice A9 n9 c9) (.slice A12 n12 c12) (contK g q) from pkAt_of (k := contK g q) (ownB_touch HO6daebc.out hTz HGdaebc.out (by decide)) (ownT_touch HO9daebc.out hTz HGdaebc.out (by decide)) (ownB_touch HO12daebc.out hTz HGdaebc.out (by decide)))
          have HBz := Lib.hid (show Below w19.heap.size w19 wz from HBdaebc.out.trans (hTz.below HNE.out.2.2 HBdaebc.out.size))
          clear hz hTz hsz
          refine hK.out _ _ HSz.out (fun hHeld => ?_)
          clear hK K
          try simp only [Act.put, List.setIfInBounds_toArray, List.set_cons_zero, List.set_cons_succ]
          clear hHeld
          refine wpAnyH_done (by kernel_rfl) ?_ _
          go_wp2_with fail
          go_meet
          case rel => exact ⟨_, rfl, ⟨gc, _, _, _, rfl, Hz.out, HPz.out, HNE.out.2.1, HNE.out.2.2⟩, HSz.out.k, HBz.out⟩
      · intro K hK
        refine step_alloc_seg (by rfl) 25 rfl 5 zeroPkF zeroPk ?_
        intro wde hC hB hs
        obtain ⟨gc, hgc⟩ : ∃ g, g = w19.drew.heap.size := ⟨_, rfl⟩
        have HNE := Lib.hid (show gq ≠ gc ∧ gp ≠ gc ∧ w19.heap.size ≤ gc from ⟨by have := HSd.out.q.lt; omega, by have := HSd.out.k.lt; omega, by have := HBd.out.size; omega⟩)
        rw [← hgc] at hC ⊢
        have HGde := Lib.hid hC
        clear hs hgc hC
        have HSde := Lib.hid (show RgS gq gp QF F wde from ⟨HSd.out.q.up hB, HSd.out.k.up hB⟩)
        have HBde := Lib.hid (HBd.out.trans (hB.mono HBd.out.size))
        clear hB
        refine hK.out _ _ HSde.out (fun hHeld => ?_)
        clear hK K hHeld
        try simp only [Act.put, List.setIfInBounds_toArray, List.set_cons_zero, List.set_cons_succ]
        refine wpAnyH_ready (rs := [6]) (by kernel_rfl) (by simp) ?_
        refine AllReadyH.cons (o := { dst := some 162, op := Op.call { callee := Callee.value (Operand.func 27), args := #[Operand.tmp 161], argTypes := #[22] }, type := 22, pos := "outright.go:166", after := #[{ on := 5, ground := Ground.data }], guard := none }) rfl ?_ ?_
        rotate_left
        · exact AllReadyH.nil
        intro K hK
        go_simp
        go_at_call 27
        refine (copyBytes_own wde Dd md dd q.data (HDd.out.up HBde.out) HMD.out.1).mono ?_
        rintro e wdea ⟨v6, rfl, hO, hB⟩
        have HO6dea := Lib.hid (OwnB_base (base' := w19.heap.size) hO HBde.out.size)
        clear hO
        obtain ⟨A6, n6, c6, rfl, -⟩ := own_full HO6dea.out
        have HSdea := Lib.hid (show RgS gq gp QF F wdea from ⟨HSde.out.q.up hB, HSde.out.k.up hB⟩)
        have HBdea := Lib.hid (HBde.out.trans (hB.mono HBde.out.size))
        have HGdea := Lib.hid (HGde.out.up hB)
        clear hB
        go_simp
        refine hK.out _ _ HSdea.out (fun hHeld => ?_)
        clear hK K hHeld
        try simp only [Act.put, List.setIfInBounds_toArray, List.set_cons_zero, List.set_cons_succ]
        refine wpAnyH_ready (rs := [9]) (by kernel_rfl) (by simp) ?_
        refine AllReadyH.cons (o := { dst := some 165, op := Op.call { callee := Callee.value (Operand.func 10), args := #[Operand.tmp 164], argTypes := #[23] }, type := 23, pos := "outright.go:166", after := #[{ on := 8, ground := Ground.data }, { on := 6, ground := Ground.chain }], guard := none }) rfl ?_ ?_
        rotate_left
        · exact AllReadyH.nil
        intro K hK
        go_simp
        go_at_call 10
        refine (copyTables_own wdea Dt mt dt q.tabs (HDt.out.up HBdea.out) HMD.out.2.1).mono ?_
        rintro e wdeab ⟨v9, rfl, hO, hB⟩
        have HO9deab := Lib.hid (ownR_base (base' := w19.heap.size) hO HBdea.out.size)
        clear hO
        obtain ⟨A9, n9, c9, rfl, -⟩ := OwnR.form HO9deab.out
        have HSdeab := Lib.hid (show RgS gq gp QF F wdeab from ⟨HSdea.out.q.up hB, HSdea.out.k.up hB⟩)
        have HBdeab := Lib.hid (HBdea.out.trans (hB.mono HBdea.out.size))
        have HGdeab := Lib.hid (HGdea.out.up hB)
        have HO6deab := Lib.hid (ownB_up HO6dea.out hB)
        clear hB
        go_simp
        refine hK.out _ _ HSdeab.out (fun hHeld => ?_)
        clear hK K hHeld
        try simp only [Act.put, List.setIfInBounds_toArray, List.set_cons_zero, List.set_cons_succ]
        refine wpAnyH_ready (rs := [12]) (by kernel_rfl) (by simp) ?_
        refine AllReadyH.cons (o := { dst := some 168, op := Op.call { callee := Callee.value (Operand.func 27), args := #[Operand.tmp 167], argTypes := #[22] }, type := 22, pos := "outright.go:166", after := #[{ on := 11, ground := Ground.data }, { on := 9, ground := Ground.chain }], guard := none }) rfl ?_ ?_
        rotate_left
        · exact AllReadyH.nil
        intro K hK
        go_simp
        go_at_call 27
        refine (copyBytes_own wdeab Ac nc cc (encB g.code) (HSP.out.up HBdeab.out) HMD.out.2.2).mono ?_
        rintro e wdeabc ⟨v12, rfl, hO, hB⟩
        have HO12deabc := Lib.hid (OwnB_base (base' := w19.heap.size) hO HBdeab.out.size)
        clear hO
        obtain ⟨A12, n12, c12, rfl, -⟩ := own_full HO12deabc.out
        have HSdeabc := Lib.hid (show RgS gq gp QF F wdeabc from ⟨HSdeab.out.q.up hB, HSdeab.out.k.up hB⟩)
        have HBdeabc := Lib.hid (HBdeab.out.trans (hB.mono HBdeab.out.size))
        have HO9deabc := Lib.hid (HO9deab.out.up hB)
        have HGdeabc := Lib.hid (HGdeab.out.up hB)
        have HO6deabc := Lib.hid (ownB_up HO6deab.out hB)
        clear hB
        go_simp
        refine hK.out _ _ HSdeabc.out (fun hHeld => ?_)
        clear hK K hHeld
        try simp only [Act.put, List.setIfInBounds_toArray, List.set_cons_zero, List.set_cons_succ]
        have hHeld := HSdeabc.out
        refine wpAnyH_take (i := 13) (oi := { dst := some 169, op := Op.build 25 #[(0, Operand.tmp 157), (1, Operand.tmp 159), (2, Operand.tmp 162), (3, Operand.tmp 165), (4, Operand.tmp 168)], type := 25, pos := "outright.go:166", after := #[{ on := 1, ground := Ground.data }, { on := 3, ground := Ground.data }, { on := 6, ground := Ground.data }, { on := 9, ground := Ground.data }, { on := 12, ground := Ground.data }], guard := none }) (v := .agg #[.int .i64 q.lo, .int .i64 q.hi, .slice A6 n6 c6, .slice A9 n9 c9, .slice A12 n12 c12]) rfl (by kernel_rfl) (by kernel_rfl) (by kernel_rfl) (fun _ _ _ h => h) (Or.inl ⟨by rfl, ?_⟩) (by assumption) ?_
        · intro w hSw
          go_simp
        try simp only [Act.put, List.setIfInBounds_toArray, List.set_cons_zero, List.set_cons_succ]
        clear hHeld
        refine wpAnyH_ready (rs := [15]) (by kernel_rfl) (by simp) ?_
        refine AllReadyH.cons (o := { dst := none, op := Op.store 25 (Operand.tmp 21) (Operand.tmp 169), type := 0, pos := "outright.go:166", after := #[{ on := 14, ground := Ground.data }, { on := 13, ground := Ground.data }, { on := 12, ground := Ground.chain }, { on := 0, ground := Ground.phase }, { on := 1, ground := Ground.phase }, { on := 2, ground := Ground.phase }, { on := 3, ground := Ground.phase }, { on := 4, ground := Ground.phase }, { on := 5, ground := Ground.phase }, { on := 6, ground := Ground.phase }, { on := 7, ground := Ground.phase }, { on := 8, ground := Ground.phase }, { on := 9, ground := Ground.phase }, { on := 10, ground := Ground.phase }, { on := 11, ground := Ground.phase }, { on := 12, ground := Ground.phase }, { on := 13, ground := Ground.phase }, { on := 14, ground := Ground.phase }], guard := none }) rfl ?_ ?_
        rotate_left
        · exact AllReadyH.nil
        intro K hK
        refine step_store_seg (by rfl) 25 _ _ rfl gc 0 25 5 5 zeroPkF (pkF q.lo q.hi (.slice A6 n6 c6) (.slice A9 n9 c9) (.slice A12 n12 c12)) rfl rfl HGdeabc.out (by omega) sizePk (pkF_one rfl rfl rfl) ?_
        intro wz hz hTz hsz
        have Hz := Lib.hid (show FB wz gc 25 5 (pkF q.lo q.hi (.slice A6 n6 c6) (.slice A9 n9 c9) (.slice A12 n12 c12)) from hz.congr fun q hq => by unfold updR; rw [if_pos (by omega), Nat.sub_zero])
        have HSz := Lib.hid (show RgS gq gp QF F wz from ⟨HSdeabc.out.q.touch hTz HNE.out.1, HSdeabc.out.k.touch hTz HNE.out.2.1⟩)
        have HPz := Lib.hid (show PkAt wz (.slice A6 n6 c6) (.slice A9 n9 c9) (.slice A12 n12 c12) (contK g q) from pkAt_of (k := contK g q) (ownB_touch HO6deabc.out hTz HGdeabc.out (by decide)) (ownT_touch HO9deabc.out hTz HGdeabc.out (by decide)) (ownB_touch HO12deabc.out hTz HGdeabc.out (by decide)))
        have HBz := Lib.hid (show Below w19.heap.size w19 wz from HBdeabc.out.trans (hTz.below HNE.out.2.2 HBdeabc.out.size))
        clear hz hTz hsz
        refine hK.out _ _ HSz.out (fun hHeld => ?_)
        clear hK K
        try simp only [Act.put, List.setIfInBounds_toArray, List.set_cons_zero, List.set_cons_succ]
        clear hHeld
        refine wpAnyH_done (by kernel_rfl) ?_ _
        go_wp2_with fail
        go_meet
        case rel => exact ⟨_, rfl, ⟨gc, _, _, _, rfl, Hz.out, HPz.out, HNE.out.2.1, HNE.out.2.2⟩, HSz.out.k, HBz.out⟩
    case rest =>
      obtain ⟨w21, hw21, ⟨gc, va, vb, vc, rfl, hGC, hKC, hn1, hn2⟩, hFP, hB21⟩ := hcut
      subst hw21
      obtain ⟨C, hC⟩ : ∃ Y, Y = pkF q.lo q.hi va vb vc := ⟨_, rfl⟩
      rw [← hC] at hGC
      have HC := Lib.hid hC
      have HGC := Lib.hid hGC
      have HKC := Lib.hid hKC
      have HKP21 := Lib.hid (HKP.out.up hB21)
      have HFP21 := Lib.hid hFP
      have HN1 := Lib.hid (show w.heap.size ≤ gc from Nat.le_trans HB19.out.size hn2)
      have HB21 := Lib.hid (HB19.out.trans (hB21.mono HB19.out.size))
      have HSC := Lib.hid (show Small (contK g q) from ⟨HSQ.out.data, HSK.out.code, HSQ.out.tabs, HSQ.out.bd, HSK.out.bc⟩)
      clear hC hGC hKC hFP hn1 hn2 hB21 HKP HFP HSP HDd HDt HFQ19 HB19 HX19 HMD HQ2 HQ3 HQ0 HF4
      have hge : 0 ≤ at2 := by rcases HTU.out.how with ⟨h1, -⟩ | ⟨h1, -⟩ <;> omega
      go_upto_region 37 with fail
      by_cases hat : at2 = 0
      · subst hat
        have HEC := Lib.hid HTU.out.enc
        have HPC := Lib.hid HTU.out.prog
        have HNZ := Lib.hid HTU.out.nz
        go_upto_region 38 with (first
          | (refine wpList_load_all rfl 25 _ rfl gc rfl 25 5 C _ HGC.out Tryd.underlying25 rfl sizePk ?_)
          | (go_at_call 13; rw [HC.out]; refine (copyPack_any w21 (contK g q) _ _ _ HKC.out HSC.out.data HSC.out.code HSC.out.tabs).mono ?_; rintro e w22 ⟨ud, ut, uc, rfl, hP22, hB22⟩; have HP22 := Lib.hid hP22; have HB22k := Lib.hid hB22; clear hP22 hB22; rw [← HC.out]; obtain ⟨Z, hZ⟩ : ∃ Z, Z = pkF (contK g q).lo (contK g q).hi ud ut uc := ⟨_, rfl⟩; rw [← hZ]; have HZ := Lib.hid hZ; clear hZ)
          | (go_at_call 28; rw [HZ.out]; refine (encode_any w22 (contK g q) _ _ _ HP22.out HSC.out.bd HSC.out.bc HSC.out.code (by have := HSC.out.tabs; omega)).mono ?_; rintro e w23 ⟨hB23, v, rfl, hv⟩; rw [← HZ.out, HEC.out]; rw [HEC.out, if_neg HNZ.out] at hv; subst hv; have HB23k := Lib.hid (HB22k.out.trans (hB23.mono HB22k.out.size)); clear hB23))
        have HGC23 := Lib.hid (HGC.out.up HB23k.out)
        have HKC23 := Lib.hid (HKC.out.up HB23k.out)
        have HKP23 := Lib.hid (HKP21.out.up HB23k.out)
        have HFP23 := Lib.hid (HFP21.out.up HB23k.out)
        have HB23 := Lib.hid (HB21.out.trans (HB23k.out.mono HB21.out.size))
        clear HP22 HZ HB22k HGC HKC HKP21 HFP21 HB21 HB23k
        go_upto_region 39 with (first
          | (refine wpList_load_all rfl 25 _ rfl gc rfl 25 5 C _ HGC23.out Tryd.underlying25 rfl sizePk ?_)
          | (go_at_call 13; rw [HC.out]; refine (copyPack_any w23 (contK g q) _ _ _ HKC23.out HSC.out.data HSC.out.code HSC.out.tabs).mono ?_; rintro e w24 ⟨ud, ut, uc, rfl, hP24, hB24⟩; have HP24 := Lib.hid hP24; have HB24k := Lib.hid hB24; have HB24 := Lib.hid (HB23.out.trans (hB24.mono HB23.out.size)); clear hP24 hB24; rw [← HC.out]; obtain ⟨Z, hZ⟩ : ∃ Z, Z = pkF (contK g q).lo (contK g q).hi ud ut uc := ⟨_, rfl⟩; rw [← hZ]; have HZ := Lib.hid hZ; clear hZ)
          | (go_at_call 11; rw [HZ.out]; refine (program_any w24 (contK g q) _ _ _ HP24.out HSC.out (HT.out.below HB24.out)).mono ?_; rintro e w25 ⟨hB25, hR⟩; rw [HPC.out] at hR; obtain rfl := hR.no HNZ.out; rw [← HZ.out]; have HB25k := Lib.hid (HB24k.out.trans (hB25.mono HB24k.out.size)); clear hB25 hR)
          | (refine wpList_alloc_seg rfl 33 rfl 5 zeroPkF zeroPg ?_; intro w26 h26 hB26 hs26; clear hs26)
          | (refine wpList_store_all rfl 33 _ _ rfl w25.heap.size 33 5 _ zeroPkF rfl rfl h26 sizePg (pkF_one rfl rfl rfl) ?_; intro w27 h27 hT27 hs27; clear hs27))
        have hb27 : Below w25.heap.size w25 w27 := hB26.trans (hT27.below (Nat.le_refl _) hB26.size)
        have HB27k := Lib.hid (HB25k.out.trans (hb27.mono HB25k.out.size))
        obtain ⟨gy, hgy⟩ : ∃ g, g = w25.heap.size := ⟨_, rfl⟩
        rw [← hgy]
        have HGC27 := Lib.hid (HGC23.out.up HB27k.out)
        have HKP27 := Lib.hid (HKP23.out.up HB27k.out)
        have HFP27 := Lib.hid (HFP23.out.up HB27k.out)
        have HB27 := Lib.hid (HB23.out.trans (HB27k.out.mono HB23.out.size))
        clear h26 hB26 h27 hT27 hb27 hgy HP24 HZ HB24k HB24 HB25k HGC23 HKC23 HKP23 HFP23 HB23 HB27k
        go_upto_region 42 with (first
          | (refine wpList_load_all rfl 25 _ rfl gp rfl 25 5 F _ HFP27.out Tryd.underlying25 rfl sizePk ?_)
          | (go_at_call 13; rw [HF.out]; refine (copyPack_own w27 (ofG g) _ _ _ HKP27.out HSK.out.data HSK.out.code HSK.out.tabs).mono ?_; rintro e w28 ⟨ud, ut, uc, rfl, hP28, hB28⟩; have HP28 := Lib.hid hP28; have HGC28 := Lib.hid (HGC27.out.up hB28); have HB28 := Lib.hid (HB27.out.trans (hB28.mono HB27.out.size)); clear hP28 hB28; rw [← HF.out]; have HO1 := Lib.hid (pkF_one (lo := (ofG g).lo) (hi := (ofG g).hi) (ownB_one HP28.out.data) (ownT_form HP28.out.tabs) (ownB_one HP28.out.code)); obtain ⟨Z, hZ⟩ : ∃ Z, Z = pkF (ofG g).lo (ofG g).hi ud ut uc := ⟨_, rfl⟩; rw [← hZ]; rw [← hZ] at HO1; have HZ := Lib.hid hZ; clear hZ)
          | (refine wpList_store_all rfl 25 _ _ rfl gc 25 5 C Z rfl rfl HGC28.out sizePk HO1.out ?_; intro w29 h29 hT29 hs29; clear hs29))
        have HG29 := Lib.hid h29
        have HB29 := Lib.hid (HB28.out.trans (hT29.below HN1.out HB28.out.size))
        have HP29 := Lib.hid (HP28.out.touch hT29 HGC28.out (by decide) (by decide))
        obtain ⟨A28, n28, c28, rfl, -⟩ := own_full HP28.out.code
        have y4 : w29.cell? ⟨gc, 4, none⟩ = some (.slice A28 n28 c28) := by rw [HG29.out.cell 4 (by decide), HZ.out]; rfl
        have k4 := HG29.out.frozen 4
        clear h29 hT29 HP28 HGC28 HB28 HO1 HGC27 HKP27 HFP27 HB27
        go_upto_region 43 with fail
        have HT30 := Lib.hid (show Touch gc w29 (w29.setCell ⟨gc, 4, none⟩ (.slice none 0 0)) from set_touch HG29.out)
        have HG30 := Lib.hid (show FB (w29.setCell ⟨gc, 4, none⟩ (.slice none 0 0)) gc 25 5 (pkF g.lo g.hi ud ut (.slice none 0 0)) from (HG29.out.set_ 4 _).congr (fun j hj => by
          rw [HZ.out]
          rcases (show j = 0 ∨ j = 1 ∨ j = 2 ∨ j = 3 ∨ j = 4 by omega) with rfl | rfl | rfl | rfl | rfl <;> rfl))
        obtain ⟨w30, hw30⟩ : ∃ u, u = w29.setCell ⟨gc, 4, none⟩ (.slice none 0 0) := ⟨_, rfl⟩
        rw [← hw30] at HT30 HG30 ⊢
        have HB30 := Lib.hid (HB29.out.trans (HT30.out.below HN1.out HB29.out.size))
        have HP30 := Lib.hid (show PkAt w30 ud ut (.slice none 0 0) ⟨g.lo, g.hi, g.data, g.tabs, []⟩ from pkAt_of (base := w27.heap.size) (HP29.out.touch HT30.out HG29.out (by decide) (by decide)).data (HP29.out.touch HT30.out HG29.out (by decide) (by decide)).tabs (OwnB.nil _ _))
        obtain ⟨E, hE⟩ : ∃ Y, Y = pkF g.lo g.hi ud ut (.slice none 0 0) := ⟨_, rfl⟩
        rw [← hE] at HG30
        have HE2 := Lib.hid hE
        have HPG := Lib.hid (program_any w30 ⟨g.lo, g.hi, g.data, g.tabs, []⟩ _ _ _ HP30.out ⟨HS.out.data, by simp, HS.out.tabs, HS.out.bd, Bytes.nil⟩ (HT.out.below HB30.out))
        rw [none_prog HE.out] at HPG
        clear hE hw30 HT30 y4 k4 HG29 HB29 HP29 HZ
        go_upto_region 44 with (first
          | (refine wpList_load_all rfl 25 _ rfl gc rfl 25 5 E _ HG30.out Tryd.underlying25 rfl sizePk ?_)
          | (go_at_call 11; rw [HE2.out]; refine HPG.out.mono ?_; rintro e w31 ⟨hB31, hR⟩; obtain rfl := hR.no (by decide); rw [← HE2.out]; have HB31 := Lib.hid (HB30.out.trans (hB31.mono HB30.out.size)); clear hB31 hR)
          | (refine wpList_alloc_seg rfl 33 rfl 5 zeroPkF zeroPg ?_; intro w32 h32 hB32 hs32; clear hs32)
          | (refine wpList_store_all rfl 33 _ _ rfl w31.heap.size 33 5 _ zeroPkF rfl rfl h32 sizePg (pkF_one rfl rfl rfl) ?_; intro w33 h33 hT33 hs33; clear hs33))
        have hb33 : Below w31.heap.size w31 w33 := hB32.trans (hT33.below (Nat.le_refl _) hB32.size)
        have HB33 := Lib.hid (HB31.out.trans (hb33.mono HB31.out.size))
        obtain ⟨gy2, hgy2⟩ : ∃ g, g = w31.heap.size := ⟨_, rfl⟩
        rw [← hgy2]
        clear h32 hB32 h33 hT33 hb33 hgy2
        go_wp2_with fail
        go_ret
        exact ⟨rfl, HB33.out⟩
      · have hlt : 0 < at2 := by omega
        have hsame := HTU.out.same hlt
        rw [hsame] at HKC HSC
        have hlo : q.lo = (ofG g).lo ∧ q.hi = (ofG g).hi := ⟨by rw [← hsame]; rfl, by rw [← hsame]; rfl⟩
        rw [hlo.1, hlo.2] at HC
        clear hsame hlo hat hge
        go_upto_region 38 with (first
          | (refine wpList_load_all rfl 25 _ rfl gc rfl 25 5 C _ HGC.out Tryd.underlying25 rfl sizePk ?_)
          | (go_at_call 13; rw [HC.out]; refine (copyPack_any w21 (ofG g) _ _ _ HKC.out HSC.out.data HSC.out.code HSC.out.tabs).mono ?_; rintro e w22 ⟨ud, ut, uc, rfl, hP22, hB22⟩; have HP22 := Lib.hid hP22; have HB22k := Lib.hid hB22; clear hP22 hB22; rw [← HC.out]; obtain ⟨Z, hZ⟩ : ∃ Z, Z = pkF (ofG g).lo (ofG g).hi ud ut uc := ⟨_, rfl⟩; rw [← hZ]; have HZ := Lib.hid hZ; clear hZ)
          | (go_at_call 28; rw [HZ.out]; refine (encode_any w22 (ofG g) _ _ _ HP22.out HSC.out.bd HSC.out.bc HSC.out.code (by have := HSC.out.tabs; omega)).mono ?_; rintro e w23 ⟨hB23, v, rfl, hv⟩; rw [← HZ.out, HEN.out]; rw [HEN.out, if_pos rfl] at hv; obtain ⟨A23, n23, c23, rfl, -⟩ := own_full hv; have HB23k := Lib.hid (HB22k.out.trans (hB23.mono HB22k.out.size)); clear hB23 hv))
        have HGC23 := Lib.hid (HGC.out.up HB23k.out)
        have HKC23 := Lib.hid (HKC.out.up HB23k.out)
        have HB23 := Lib.hid (HB21.out.trans (HB23k.out.mono HB21.out.size))
        clear HP22 HZ HB22k HGC HKC HKP21 HFP21 HB21 HB23k
        go_upto_region 39 with (first
          | (refine wpList_load_all rfl 25 _ rfl gc rfl 25 5 C _ HGC23.out Tryd.underlying25 rfl sizePk ?_)
          | (go_at_call 13; rw [HC.out]; refine (copyPack_any w23 (ofG g) _ _ _ HKC23.out HSC.out.data HSC.out.code HSC.out.tabs).mono ?_; rintro e w24 ⟨ud, ut, uc, rfl, hP24, hB24⟩; have HP24 := Lib.hid hP24; have HB24 := Lib.hid (HB23.out.trans (hB24.mono HB23.out.size)); clear hP24 hB24; rw [← HC.out]; obtain ⟨Z, hZ⟩ : ∃ Z, Z = pkF (ofG g).lo (ofG g).hi ud ut uc := ⟨_, rfl⟩; rw [← hZ]; have HZ := Lib.hid hZ; clear hZ)
          | (go_at_call 11; rw [HZ.out]; refine (program_any w24 (ofG g) _ _ _ HP24.out HSC.out (HT.out.below HB24.out)).mono ?_; rintro e w25 ⟨hB25, hR⟩; rw [HPR.out] at hR; obtain ⟨jd, jt, jc, rfl, hd, hT, hc⟩ := hR.yes rfl; rw [← HZ.out]; have HB25 := Lib.hid (HB24.out.trans (hB25.mono HB24.out.size)); have HO1 := Lib.hid (pkF_one (lo := g.lo) (hi := g.hi) (ownB_one hd) (ownT_form hT) (ownR_one hc)); clear hB25 hR hd hT hc; obtain ⟨J, hJ⟩ : ∃ F, F = pkF g.lo g.hi jd jt jc := ⟨_, rfl⟩; rw [← hJ]; rw [← hJ] at HO1; clear hJ)
          | (refine wpList_alloc_seg rfl 33 rfl 5 zeroPkF zeroPg ?_; intro w26 h26 hB26 hs26; clear hs26)
          | (refine wpList_store_all rfl 33 _ _ rfl w25.heap.size 33 5 _ J rfl rfl h26 sizePg HO1.out ?_; intro w27 h27 hT27 hs27; clear hs27))
        have hb27 : Below w25.heap.size w25 w27 := hB26.trans (hT27.below (Nat.le_refl _) hB26.size)
        have HB27 := Lib.hid (HB25.out.trans (hb27.mono HB25.out.size))
        obtain ⟨gy, hgy⟩ : ∃ g, g = w25.heap.size := ⟨_, rfl⟩
        rw [← hgy]
        clear h26 hB26 h27 hT27 hb27 hgy
        go_wp2_with fail
        go_ret
        exact ⟨rfl, HB27.out⟩
end Go.Proofs.YtlodoinmippebaaDoor.Pak
