/- Package pack: containers copied, and held against each other. -/
import Derived.Test.YtkfcfoidaalnlaaPkS
namespace Go.Proofs.Ytkfcfoidaalnlaa.Pak
open Go.ChangeShapes Go.WideShapes Go.ChangeAt Go.RowKit
set_option linter.unusedVariables false
set_option linter.unusedSimpArgs false
set_option maxRecDepth 100000
theorem copyBytes_own (w : World) (A : Option Addr) (n c : Nat) (L : List Int) (h : Sl w A n c L) (hlen : n ≤ 140737488355328) :
    Calls Try.prog 17 #[.slice A n c] w (CopEnd w L) := by
  have hown := OwnB.nil w w.heap.size
  have hL := h.len.out
  have hat := h.byt
  clear h
  go_enter Try.func17, Try.ntmps17
  go_wp2_with (at_builtin; (refine append_bytes Try.underlying22 byte_info _ rfl (.const (.slice none 0 0)) (.tmp 3) rfl w.heap.size _ _ rfl hown _ n c _ rfl hL hat (by simpa using hlen) (Nat.le_refl _) ?_; intro v' w' hown' hB'))
  have HO := Lib.hid hown'
  obtain ⟨A', c', hv, -⟩ := hown'.form
  subst hv
  go_ret
  exact ⟨_, rfl, HO.out, hB'⟩
theorem tb_reads {w : World} {A : Option Addr} {n c : Nat} {l : List (Int × Int)} (h : Tb w A n c l) : Reads w w.heap.size 2 A n (flat 2 tabF l) := by
  refine ⟨by rw [flat_len, h.len.out], fun hp => ?_⟩
  obtain ⟨b, off, rfl, hlt, hc⟩ := h.row (by rw [h.len.out]; exact hp)
  refine ⟨_, rfl, hlt, fun j u hu => ?_⟩
  have hj : j < l.length * 2 := by
    rcases Nat.lt_or_ge j (flat 2 tabF l).length with h1 | h1
    · rw [flat_len] at h1; exact h1
    · rw [List.getElem?_eq_none h1] at hu; cases hu
  obtain ⟨a, ha⟩ : ∃ a, l[j / 2]? = some a := ⟨_, List.getElem?_eq_getElem (by omega)⟩
  have h2 := flat_get 2 tabF l (j / 2) a ha (j % 2) (Nat.mod_lt _ (by decide))
  rw [show j / 2 * 2 + j % 2 = j by omega, hu] at h2
  injection h2 with h2
  rw [addr_add, h2, ← hc (j / 2) a ha (j % 2) (Nat.mod_lt _ (by decide)), show off + j / 2 * 2 + j % 2 = off + j by omega]
theorem tabF_two {v : Value} {l : List (Int × Int)} (h : v ∈ flat 2 tabF l) : v.oneCell' = true := by
  unfold flat at h
  obtain ⟨a, _, h2⟩ := List.mem_flatMap.1 h
  rw [arr_toList] at h2
  obtain ⟨q, hq, rfl⟩ := List.mem_map.1 h2
  exact tabF_one a q (List.mem_range.1 hq)
theorem copyTables_own (w : World) (A : Option Addr) (n c : Nat) (l : List (Int × Int)) (h : Tb w A n c l) (hlen : n ≤ 8796093022208) :
    Calls Try.prog 7 #[.slice A n c] w fun e w' => ∃ v, e = .returned v ∧ OwnR 60 2 tabF w' w.heap.size v l ∧ Below w.heap.size w w' := by
  have hown : w.ownsRow w.heap.size 60 2 (.slice none 0 0) 0 [] := World.ownsRow_nil w w.heap.size _ 2
  have hr := tb_reads h
  have hl := h.len.out
  obtain ⟨i0, hi0, hz0, hz1, hz2, hz3⟩ : ∃ i z, (Try.prog.info? 60) = some i ∧ i.zero = some z ∧ z.cells.size = 2 ∧ i.size = 2 ∧ i.bytes = 16 := by
    cases hq : Try.prog.info? 60 with
    | none => have := infoT; rw [hq] at this; cases this
    | some i =>
      have := infoT
      rw [hq] at this
      simp only [Option.map_some, Option.some.injEq, Prod.mk.injEq] at this
      obtain ⟨h1, h2, h3⟩ := this
      cases hz : i.zero with
      | none => rw [hz] at h1; cases h1
      | some z =>
        rw [hz] at h1
        have hzc : z.cells = arr 2 (tabF (0, 0)) := by simpa using h1
        exact ⟨i, z, rfl, hz, by rw [hzc, arr_size], h2, h3⟩
  obtain ⟨q3, q4⟩ := hz3
  clear h
  go_enter Try.func7, Try.ntmps7
  go_wp2_with (at_builtin; (refine wpList_append_wide w rfl (.const (.slice none 0 0)) (.tmp 3) 23 rfl w.heap.size 60 i0 hi0 2 16 Try.underlying23 hz0 hz1 q3 q4 hz2 (by decide) (.slice none 0 0) 0 [] rfl hown w.heap.size A n c (flat 2 tabF l) rfl hr (fun u hu => tabF_two hu) (by unfold maxLen; omega) (by omega) (Nat.le_refl _) ?_; intro v' w' hown' hg'))
  have HO := Lib.hid (show OwnR 60 2 tabF w' w.heap.size v' l by
    unfold OwnR
    rw [hl]
    rw [Nat.zero_add, List.nil_append] at hown'
    exact hown')
  have HB := Lib.hid (show Below w.heap.size w w' from (Below.refl _ _).grown hg' (Nat.le_refl _) (fun k hk => by simp [Value.ownBlock] at hk))
  obtain ⟨A', m', c', hv, -⟩ := HO.out.form
  subst hv
  go_ret
  exact ⟨_, rfl, HO.out, HB.out⟩
theorem ownR_base {α : Type} {e : TypeId} {s : Nat} {f : α → Nat → Value} {w : World} {base base' : Nat} {v : Value} {l : List α} (h : OwnR e s f w base v l) (hb : base' ≤ base) : OwnR e s f w base' v l := by
  refine ⟨h.1, ?_⟩
  rcases h.2 with h1 | ⟨g, cap, cur, hv, hg, h1⟩
  · exact .inl h1
  · exact .inr ⟨g, cap, cur, hv, by omega, h1⟩
theorem pkAt_of {w : World} {base : Nat} {vd vt vc : Value} {k : Pk} (h1 : OwnB w base vd k.data) (h2 : OwnR 60 2 tabF w base vt k.tabs) (h3 : OwnB w base vc k.code) : PkAt w vd vt vc k := by
  obtain ⟨A, m, c, hv, hm, hc, hr, _⟩ := h2.form
  exact ⟨own_full h1, ⟨A, m, c, hv, ⟨Lib.hid hm.out.symm, hc, hr⟩⟩, own_full h3⟩
def CopPk (w : World) (k : Pk) (e : Ending) (w' : World) : Prop := ∃ vd vt vc, e = .returned (.agg (arr 5 (pkF k.lo k.hi vd vt vc))) ∧ PkAt w' vd vt vc k ∧ Below w.heap.size w w'
structure CpS (gb gr : Nat) (X : Nat → Value) (W : World) : Prop where
  box : FB W gb 25 5 X
  res : ∃ f, FB W gr 25 5 f
  ne : gb ≠ gr
set_option maxHeartbeats 4000000 in
theorem copyPack_any (w : World) (k : Pk) (vd vt vc : Value) (hk : PkAt w vd vt vc k) (hdl : k.data.length ≤ 140737488355328) (hcl : k.code.length ≤ 140737488355328) (htl : k.tabs.length ≤ 8796093022208) :
    Calls Try.prog 10 #[.agg (arr 5 (pkF k.lo k.hi vd vt vc))] w (CopPk w k) := by
  obtain ⟨⟨Ad, nd, cd, rfl, hD⟩, ⟨At, nt, ct, rfl, hT⟩, Ac, nc, cc, rfl, hC⟩ := hk
  obtain ⟨lo, hi, data, tabs, code⟩ := k
  simp only at hD hT hC hdl hcl htl ⊢
  have HD := Lib.hid hD
  have HT := Lib.hid hT
  have HC := Lib.hid hC
  have hnd : nd ≤ 140737488355328 := by have := hD.len.out; omega
  have hnc : nc ≤ 140737488355328 := by have := hC.len.out; omega
  have hnt : nt ≤ 8796093022208 := by have := hT.len.out; omega
  obtain ⟨X, hX⟩ : ∃ X, X = pkF lo hi (.slice Ad nd cd) (.slice At nt ct) (.slice Ac nc cc) := ⟨_, rfl⟩
  rw [← hX]
  have HX := Lib.hid hX
  clear hX hD hT hC hdl hcl htl
  go_enter Try.func10, Try.ntmps10
  go_upto_region 1 with (first
    | (refine wpList_box_seg rfl _ (.tmp 0) rfl 5 X rfl ?_; intro w1 h1 hB1 hs1)
    | (refine wpList_alloc_seg rfl 25 rfl 5 zeroPkF zeroPk ?_; intro w2 h2 hB2 hs2))
  obtain ⟨gb, hgb⟩ : ∃ gb, gb = w.heap.size := ⟨_, rfl⟩
  obtain ⟨gr, hgr⟩ : ∃ gr, gr = w1.heap.size := ⟨_, rfl⟩
  rw [← hgb] at h1 ⊢
  rw [← hgr] at h2 ⊢
  have hb2 : Below w.heap.size w w2 := hB1.trans (hB2.mono hB1.size)
  have HB2 := Lib.hid hb2
  have HS := Lib.hid (show CpS gb gr X w2 from ⟨h1.up hB2, ⟨_, h2⟩, by omega⟩)
  have HGR := Lib.hid (show w.heap.size ≤ gr ∧ gr < w2.heap.size by omega)
  clear h1 hB1 hs1 h2 hB2 hs2 hgb hgr hb2
  refine wp_region_held_drew (S := fun W => CpS gb gr X W) (by kernel_rfl) ⟨HS.out.box.drewN 1, HS.out.res.imp fun _ h => h.drewN 1, HS.out.ne⟩ (fun hHeld => ?_)
  refine wpAnyH_take (i := 0) (oi := { dst := some 3, op := Op.fieldAddr 25 (Operand.tmp 1) 0, type := 0, pos := "plain.go:96", after := #[], guard := none }) (v := .pointer (some ⟨gb, 0, none⟩)) rfl (by kernel_rfl) (by kernel_rfl) (by kernel_rfl) (fun _ _ _ h => h) (Or.inl ⟨by rfl, ?_⟩) (by assumption) ?_
  · intro w hSw
    go_simp
  try simp only [Act.put, List.setIfInBounds_toArray, List.set_cons_zero, List.set_cons_succ]
  refine wpAnyH_take (i := 1) (oi := { dst := some 4, op := Op.load 3 (Operand.tmp 3), type := 3, pos := "plain.go:96", after := #[{ on := 0, ground := Ground.data }], guard := none }) (v := .int .i64 lo) rfl (by kernel_rfl) (by kernel_rfl) (by kernel_rfl) (fun _ _ _ h => h) (Or.inl ⟨by rfl, ?_⟩) (by assumption) ?_
  · intro w hSw
    have q0 : w.cell? ⟨gb, 0, none⟩ = some (.int .i64 lo) := by rw [hSw.box.cell 0 (by decide), HX.out]; rfl
    go_simp
  try simp only [Act.put, List.setIfInBounds_toArray, List.set_cons_zero, List.set_cons_succ]
  refine wpAnyH_take (i := 2) (oi := { dst := some 5, op := Op.fieldAddr 25 (Operand.tmp 1) 1, type := 0, pos := "plain.go:96", after := #[], guard := none }) (v := .pointer (some ⟨gb, 1, none⟩)) rfl (by kernel_rfl) (by kernel_rfl) (by kernel_rfl) (fun _ _ _ h => h) (Or.inl ⟨by rfl, ?_⟩) (by assumption) ?_
  · intro w hSw
    go_simp
  try simp only [Act.put, List.setIfInBounds_toArray, List.set_cons_zero, List.set_cons_succ]
  refine wpAnyH_take (i := 3) (oi := { dst := some 6, op := Op.load 3 (Operand.tmp 5), type := 3, pos := "plain.go:96", after := #[{ on := 2, ground := Ground.data }], guard := none }) (v := .int .i64 hi) rfl (by kernel_rfl) (by kernel_rfl) (by kernel_rfl) (fun _ _ _ h => h) (Or.inl ⟨by rfl, ?_⟩) (by assumption) ?_
  · intro w hSw
    have q0 : w.cell? ⟨gb, 1, none⟩ = some (.int .i64 hi) := by rw [hSw.box.cell 1 (by decide), HX.out]; rfl
    go_simp
  try simp only [Act.put, List.setIfInBounds_toArray, List.set_cons_zero, List.set_cons_succ]
  refine wpAnyH_take (i := 4) (oi := { dst := some 7, op := Op.fieldAddr 25 (Operand.tmp 1) 2, type := 0, pos := "plain.go:96", after := #[], guard := none }) (v := .pointer (some ⟨gb, 2, none⟩)) rfl (by kernel_rfl) (by kernel_rfl) (by kernel_rfl) (fun _ _ _ h => h) (Or.inl ⟨by rfl, ?_⟩) (by assumption) ?_
  · intro w hSw
    go_simp
  try simp only [Act.put, List.setIfInBounds_toArray, List.set_cons_zero, List.set_cons_succ]
  refine wpAnyH_take (i := 5) (oi := { dst := some 8, op := Op.load 22 (Operand.tmp 7), type := 22, pos := "plain.go:96", after := #[{ on := 4, ground := Ground.data }], guard := none }) (v := .slice Ad nd cd) rfl (by kernel_rfl) (by kernel_rfl) (by kernel_rfl) (fun _ _ _ h => h) (Or.inl ⟨by rfl, ?_⟩) (by assumption) ?_
  · intro w hSw
    have q0 : w.cell? ⟨gb, 2, none⟩ = some (.slice Ad nd cd) := by rw [hSw.box.cell 2 (by decide), HX.out]; rfl
    go_simp
  try simp only [Act.put, List.setIfInBounds_toArray, List.set_cons_zero, List.set_cons_succ]
  refine wpAnyH_take (i := 7) (oi := { dst := some 10, op := Op.fieldAddr 25 (Operand.tmp 1) 3, type := 0, pos := "plain.go:96", after := #[], guard := none }) (v := .pointer (some ⟨gb, 3, none⟩)) rfl (by kernel_rfl) (by kernel_rfl) (by kernel_rfl) (fun _ _ _ h => h) (Or.inl ⟨by rfl, ?_⟩) (by assumption) ?_
  · intro w hSw
    go_simp
  try simp only [Act.put, List.setIfInBounds_toArray, List.set_cons_zero, List.set_cons_succ]
  refine wpAnyH_take (i := 8) (oi := { dst := some 11, op := Op.load 23 (Operand.tmp 10), type := 23, pos := "plain.go:96", after := #[{ on := 7, ground := Ground.data }], guard := none }) (v := .slice At nt ct) rfl (by kernel_rfl) (by kernel_rfl) (by kernel_rfl) (fun _ _ _ h => h) (Or.inl ⟨by rfl, ?_⟩) (by assumption) ?_
  · intro w hSw
    have q0 : w.cell? ⟨gb, 3, none⟩ = some (.slice At nt ct) := by rw [hSw.box.cell 3 (by decide), HX.out]; rfl
    go_simp
  try simp only [Act.put, List.setIfInBounds_toArray, List.set_cons_zero, List.set_cons_succ]
  refine wpAnyH_take (i := 10) (oi := { dst := some 13, op := Op.fieldAddr 25 (Operand.tmp 1) 4, type := 0, pos := "plain.go:96", after := #[], guard := none }) (v := .pointer (some ⟨gb, 4, none⟩)) rfl (by kernel_rfl) (by kernel_rfl) (by kernel_rfl) (fun _ _ _ h => h) (Or.inl ⟨by rfl, ?_⟩) (by assumption) ?_
  · intro w hSw
    go_simp
  try simp only [Act.put, List.setIfInBounds_toArray, List.set_cons_zero, List.set_cons_succ]
  refine wpAnyH_take (i := 11) (oi := { dst := some 14, op := Op.load 22 (Operand.tmp 13), type := 22, pos := "plain.go:96", after := #[{ on := 10, ground := Ground.data }], guard := none }) (v := .slice Ac nc cc) rfl (by kernel_rfl) (by kernel_rfl) (by kernel_rfl) (fun _ _ _ h => h) (Or.inl ⟨by rfl, ?_⟩) (by assumption) ?_
  · intro w hSw
    have q0 : w.cell? ⟨gb, 4, none⟩ = some (.slice Ac nc cc) := by rw [hSw.box.cell 4 (by decide), HX.out]; rfl
    go_simp
  try simp only [Act.put, List.setIfInBounds_toArray, List.set_cons_zero, List.set_cons_succ]
  refine wpAnyH_ready (rs := [6]) (by kernel_rfl) (by simp) ?_
  refine AllReadyH.cons (o := { dst := some 9, op := Op.call { callee := Callee.value (Operand.func 17), args := #[Operand.tmp 8], argTypes := #[22] }, type := 22, pos := "plain.go:96", after := #[{ on := 5, ground := Ground.data }], guard := none }) rfl ?_ ?_
  rotate_left
  · exact AllReadyH.nil
  intro K hK
  go_simp
  go_at_call 17
  refine (copyBytes_own w2.drew Ad nd cd data ((HD.out.up HB2.out).up (below_drewN (Below.refl _ _) 1)) hnd).mono ?_
  rintro e w3 ⟨v3, rfl, hO3, hB3⟩
  have HB3 := Lib.hid (show Below w.heap.size w w3 from (below_drewN HB2.out 1).trans (hB3.mono HB2.out.size))
  have HS3 := Lib.hid (show CpS gb gr X w3 from ⟨hHeld.box.up hB3, hHeld.res.imp fun _ h => h.up hB3, hHeld.ne⟩)
  have HO3 := Lib.hid (OwnB_base (base' := w.heap.size) hO3 HB2.out.size)
  have HGR3 := Lib.hid (show gr < w3.heap.size from Nat.lt_of_lt_of_le HGR.out.2 hB3.size)
  clear hO3 hB3 hHeld
  obtain ⟨A3, n3, c3, rfl, -⟩ := own_full HO3.out
  go_simp
  refine hK.out _ _ HS3.out (fun hHeld => ?_)
  clear hK K
  try simp only [Act.put, List.setIfInBounds_toArray, List.set_cons_zero, List.set_cons_succ]
  refine wpAnyH_ready (rs := [9]) (by kernel_rfl) (by simp) ?_
  refine AllReadyH.cons (o := { dst := some 12, op := Op.call { callee := Callee.value (Operand.func 7), args := #[Operand.tmp 11], argTypes := #[23] }, type := 23, pos := "plain.go:96", after := #[{ on := 8, ground := Ground.data }, { on := 6, ground := Ground.chain }], guard := none }) rfl ?_ ?_
  rotate_left
  · exact AllReadyH.nil
  intro K hK
  go_simp
  go_at_call 7
  refine (copyTables_own w3 At nt ct tabs (HT.out.up HB3.out) hnt).mono ?_
  rintro e w4 ⟨v4, rfl, hO4, hB4⟩
  have HB4 := Lib.hid (show Below w.heap.size w w4 from HB3.out.trans (hB4.mono HB3.out.size))
  have HS4 := Lib.hid (show CpS gb gr X w4 from ⟨hHeld.box.up hB4, hHeld.res.imp fun _ h => h.up hB4, hHeld.ne⟩)
  have HO4 := Lib.hid (ownR_base (base' := w.heap.size) hO4 HB3.out.size)
  have HO34 := Lib.hid (ownB_up HO3.out hB4)
  have HGR4 := Lib.hid (show gr < w4.heap.size from Nat.lt_of_lt_of_le HGR3.out hB4.size)
  clear hO4 hB4 hHeld HO3 HS3
  obtain ⟨A4, n4, c4, rfl, -⟩ := HO4.out.form
  go_simp
  refine hK.out _ _ HS4.out (fun hHeld => ?_)
  clear hK K
  try simp only [Act.put, List.setIfInBounds_toArray, List.set_cons_zero, List.set_cons_succ]
  refine wpAnyH_ready (rs := [12]) (by kernel_rfl) (by simp) ?_
  refine AllReadyH.cons (o := { dst := some 15, op := Op.call { callee := Callee.value (Operand.func 17), args := #[Operand.tmp 14], argTypes := #[22] }, type := 22, pos := "plain.go:96", after := #[{ on := 11, ground := Ground.data }, { on := 9, ground := Ground.chain }], guard := none }) rfl ?_ ?_
  rotate_left
  · exact AllReadyH.nil
  intro K hK
  go_simp
  go_at_call 17
  refine (copyBytes_own w4 Ac nc cc code (HC.out.up HB4.out) hnc).mono ?_
  rintro e w5 ⟨v5, rfl, hO5, hB5⟩
  have HB5 := Lib.hid (show Below w.heap.size w w5 from HB4.out.trans (hB5.mono HB4.out.size))
  have HS5 := Lib.hid (show CpS gb gr X w5 from ⟨hHeld.box.up hB5, hHeld.res.imp fun _ h => h.up hB5, hHeld.ne⟩)
  have HO5 := Lib.hid (OwnB_base (base' := w.heap.size) hO5 HB4.out.size)
  have HO35 := Lib.hid (ownB_up HO34.out hB5)
  have HO45 := Lib.hid (HO4.out.up hB5)
  clear hO5 hB5 hHeld HO34 HO4 HS4
  obtain ⟨A5, n5, c5, rfl, -⟩ := own_full HO5.out
  go_simp
  refine hK.out _ _ HS5.out (fun hHeld => ?_)
  clear hK K
  try simp only [Act.put, List.setIfInBounds_toArray, List.set_cons_zero, List.set_cons_succ]
  refine wpAnyH_take (i := 13) (oi := { dst := some 16, op := Op.build 25 #[(0, Operand.tmp 4), (1, Operand.tmp 6), (2, Operand.tmp 9), (3, Operand.tmp 12), (4, Operand.tmp 15)], type := 25, pos := "plain.go:96", after := #[{ on := 1, ground := Ground.data }, { on := 3, ground := Ground.data }, { on := 6, ground := Ground.data }, { on := 9, ground := Ground.data }, { on := 12, ground := Ground.data }], guard := none }) (v := .agg #[.int .i64 lo, .int .i64 hi, .slice A3 n3 c3, .slice A4 n4 c4, .slice A5 n5 c5]) rfl (by kernel_rfl) (by kernel_rfl) (by kernel_rfl) (fun _ _ _ h => h) (Or.inl ⟨by rfl, ?_⟩) (by assumption) ?_
  · intro w hSw
    go_simp
  try simp only [Act.put, List.setIfInBounds_toArray, List.set_cons_zero, List.set_cons_succ]
  clear hHeld
  refine wpAnyH_ready (rs := [14]) (by kernel_rfl) (by simp) ?_
  refine AllReadyH.cons (o := { dst := none, op := Op.store 25 (Operand.tmp 2) (Operand.tmp 16), type := 0, pos := "plain.go:96", after := #[{ on := 13, ground := Ground.data }, { on := 12, ground := Ground.chain }, { on := 0, ground := Ground.phase }, { on := 1, ground := Ground.phase }, { on := 2, ground := Ground.phase }, { on := 3, ground := Ground.phase }, { on := 4, ground := Ground.phase }, { on := 5, ground := Ground.phase }, { on := 6, ground := Ground.phase }, { on := 7, ground := Ground.phase }, { on := 8, ground := Ground.phase }, { on := 9, ground := Ground.phase }, { on := 10, ground := Ground.phase }, { on := 11, ground := Ground.phase }, { on := 12, ground := Ground.phase }, { on := 13, ground := Ground.phase }], guard := none }) rfl ?_ ?_
  rotate_left
  · exact AllReadyH.nil
  intro K hK
  obtain ⟨fo, hfo⟩ := HS5.out.res
  refine step_store_seg (by rfl) 25 _ _ rfl gr 0 25 5 5 fo (pkF lo hi (.slice A3 n3 c3) (.slice A4 n4 c4) (.slice A5 n5 c5)) rfl rfl hfo (by omega) sizePk (pkF_one rfl rfl rfl) ?_
  intro w6 h6 hT6 hs6
  have H6 := Lib.hid (show FB w6 gr 25 5 (pkF lo hi (.slice A3 n3 c3) (.slice A4 n4 c4) (.slice A5 n5 c5)) from h6.congr fun q hq => by unfold updR; rw [if_pos (by omega), Nat.sub_zero])
  have HS6 := Lib.hid (show CpS gb gr X w6 from ⟨HS5.out.box.touch hT6 HS5.out.ne, ⟨_, H6.out⟩, HS5.out.ne⟩)
  have HP6 := Lib.hid (show PkAt w6 (.slice A3 n3 c3) (.slice A4 n4 c4) (.slice A5 n5 c5) ⟨lo, hi, data, tabs, code⟩ from pkAt_of (ownB_touch HO35.out hT6 hfo (by decide)) (ownT_touch HO45.out hT6 hfo (by decide)) (ownB_touch HO5.out hT6 hfo (by decide)))
  have HB6 := Lib.hid (show Below w.heap.size w w6 from HB5.out.trans (hT6.below HGR.out.1 HB5.out.size))
  clear h6 hT6 hs6 hfo
  refine hK.out _ _ HS6.out (fun hHeld => ?_)
  clear hK K
  try simp only [Act.put, List.setIfInBounds_toArray, List.set_cons_zero, List.set_cons_succ]
  clear hHeld
  refine wpAnyH_done (by kernel_rfl) ?_ _
  go_wp2_with fail
  refine bodyPost_ret (result_seg rfl _ _ gr _ 5 _ _ rfl H6.out Try.underlying25 rfl sizePk) rfl ⟨_, _, _, rfl, HP6.out, HB6.out⟩
end Go.Proofs.Ytkfcfoidaalnlaa.Pak
