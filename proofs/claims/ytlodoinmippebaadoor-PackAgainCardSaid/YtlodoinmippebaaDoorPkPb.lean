/- Programs in memory: copied, held against each other. Laid by wip/tools/mkpkpb.py out of XPkT and XPkU. -/
import Derived.Test.YtlodoinmippebaaDoorPkPa
namespace Go.Proofs.YtlodoinmippebaaDoor.Pak
open Go.ChangeShapes Go.WideShapes Go.ChangeAt Go.RowKit
open Cod
set_option linter.unusedVariables false
set_option linter.unusedSimpArgs false
set_option maxRecDepth 100000
def insF (i : Ins) : Nat → Value
  | 0 => .int .i64 i.op
  | 1 => .bool i.nar
  | 2 => .bool i.reg
  | 3 => .int .i64 i.size
  | 4 => .int .i64 i.dst
  | 5 => .int .i64 i.src
  | 6 => .int .i64 i.off
  | _ => .int .i64 i.imm
theorem insF_one (i : Ins) : ∀ q, q < 8 → (insF i q).oneCell' = true := fun q hq => by
  rcases (show q = 0 ∨ q = 1 ∨ q = 2 ∨ q = 3 ∨ q = 4 ∨ q = 5 ∨ q = 6 ∨ q = 7 by omega) with rfl | rfl | rfl | rfl | rfl | rfl | rfl | rfl <;> rfl
theorem insF_arr (i : Ins) : (arr 8 (insF i)).toList = i.cells := rfl
theorem flat_ins (L : List Ins) : flat 8 insF L = L.flatMap Ins.cells := rfl
theorem rows_code {w : World} {A : Option Addr} {L : List Ins} (h : RowsAt w A 8 insF L) : CodeAt w A L := fun hp => by
  obtain ⟨b, off, e, hl, hc⟩ := h hp
  exact ⟨b, off, e, hl, fun j i hj => ⟨hc j i hj 0 (by decide), hc j i hj 1 (by decide), hc j i hj 2 (by decide), hc j i hj 3 (by decide), hc j i hj 4 (by decide), hc j i hj 5 (by decide), hc j i hj 6 (by decide), hc j i hj 7 (by decide)⟩⟩
theorem code_rows {w : World} {A : Option Addr} {L : List Ins} (h : CodeAt w A L) : RowsAt w A 8 insF L := fun hp => by
  obtain ⟨b, off, e, hl, hc⟩ := h hp
  refine ⟨b, off, e, hl, fun j i hj k hk => ?_⟩
  obtain ⟨h0, h1, h2, h3, h4, h5, h6, h7⟩ := hc j i hj
  rcases (show k = 0 ∨ k = 1 ∨ k = 2 ∨ k = 3 ∨ k = 4 ∨ k = 5 ∨ k = 6 ∨ k = 7 by omega) with rfl | rfl | rfl | rfl | rfl | rfl | rfl | rfl <;> assumption
/-- instructions in memory that a slice tells -/
structure Cs (w : World) (A : Option Addr) (n c : Nat) (L : List Ins) : Prop where
  len : Hid (L.length = n)
  cap : n ≤ c
  row : CodeAt w A L
theorem Cs.up {w w' : World} {A : Option Addr} {n c : Nat} {L : List Ins} (h : Cs w A n c L) (hb : Below w.heap.size w w') : Cs w' A n c L := ⟨h.len, h.cap, h.row.below hb⟩
/-- a program in memory -/
structure PgAt (w : World) (vd vt vc : Value) (p : Pg) : Prop where
  data : ∃ A n c, vd = .slice A n c ∧ Sl w A n c p.data
  tabs : ∃ A n c, vt = .slice A n c ∧ Tb w A n c p.tabs
  code : ∃ A n c, vc = .slice A n c ∧ Cs w A n c p.code
theorem PgAt.up {w w' : World} {vd vt vc : Value} {p : Pg} (h : PgAt w vd vt vc p) (hb : Below w.heap.size w w') : PgAt w' vd vt vc p := by
  obtain ⟨⟨A, n, c, e, h1⟩, ⟨A', n', c', e', h2⟩, A'', n'', c'', e'', h3⟩ := h
  exact ⟨⟨A, n, c, e, h1.up hb⟩, ⟨A', n', c', e', h2.up hb⟩, A'', n'', c'', e'', h3.up hb⟩
theorem infoI : (Tryd.prog.info? 71).map (fun i => (i.zero.map Value.cells, i.size, i.bytes)) = some (some (arr 8 (insF zeroI)), 8, 56) := by kernel_rfl
theorem zeroPg : (Tryd.prog.info? 33).bind (fun i => i.zero.map Value.cells) = some (arr 5 zeroPkF) := by kernel_rfl
theorem sizePg : (Tryd.prog.info? 33).map (·.size) = some 5 := by kernel_rfl
theorem cs_reads {w : World} {A : Option Addr} {n c : Nat} {l : List Ins} (h : Cs w A n c l) : Reads w w.heap.size 8 A n (flat 8 insF l) := by
  refine ⟨by rw [flat_len, h.len.out], fun hp => ?_⟩
  obtain ⟨b, off, rfl, hlt, hc⟩ := (code_rows h.row) (by rw [h.len.out]; exact hp)
  refine ⟨_, rfl, hlt, fun j u hu => ?_⟩
  have hj : j < l.length * 8 := by
    rcases Nat.lt_or_ge j (flat 8 insF l).length with h1 | h1
    · rw [flat_len] at h1; exact h1
    · rw [List.getElem?_eq_none h1] at hu; cases hu
  obtain ⟨a, ha⟩ : ∃ a, l[j / 8]? = some a := ⟨_, List.getElem?_eq_getElem (by omega)⟩
  have h2 := flat_get 8 insF l (j / 8) a ha (j % 8) (Nat.mod_lt _ (by decide))
  rw [show j / 8 * 8 + j % 8 = j by omega, hu] at h2
  injection h2 with h2
  rw [addr_add, h2, ← hc (j / 8) a ha (j % 8) (Nat.mod_lt _ (by decide)), show off + j / 8 * 8 + j % 8 = off + j by omega]
theorem insF_two {v : Value} {l : List Ins} (h : v ∈ flat 8 insF l) : v.oneCell' = true := by
  unfold flat at h
  obtain ⟨a, _, h2⟩ := List.mem_flatMap.1 h
  rw [arr_toList] at h2
  obtain ⟨q, hq, rfl⟩ := List.mem_map.1 h2
  exact insF_one a q (List.mem_range.1 hq)
theorem copyCode_own (w : World) (A : Option Addr) (n c : Nat) (l : List Ins) (h : Cs w A n c l) (hlen : n ≤ 2513169434880) :
    Calls Tryd.prog 31 #[.slice A n c] w fun e w' => ∃ v, e = .returned v ∧ OwnR 71 8 insF w' w.heap.size v l ∧ Below w.heap.size w w' := by
  have hown : w.ownsRow w.heap.size 71 8 (.slice none 0 0) 0 [] := World.ownsRow_nil w w.heap.size _ 8
  have hr := cs_reads h
  have hl := h.len.out
  obtain ⟨i0, hi0, hz0, hz1, hz2, hz3⟩ : ∃ i z, (Tryd.prog.info? 71) = some i ∧ i.zero = some z ∧ z.cells.size = 8 ∧ i.size = 8 ∧ i.bytes = 56 := by
    cases hq : Tryd.prog.info? 71 with
    | none => have := infoI; rw [hq] at this; cases this
    | some i =>
      have := infoI
      rw [hq] at this
      simp only [Option.map_some, Option.some.injEq, Prod.mk.injEq] at this
      obtain ⟨h1, h2, h3⟩ := this
      cases hz : i.zero with
      | none => rw [hz] at h1; cases h1
      | some z =>
        rw [hz] at h1
        have hzc : z.cells = arr 8 (insF zeroI) := by simpa using h1
        exact ⟨i, z, rfl, hz, by rw [hzc, arr_size], h2, h3⟩
  obtain ⟨q3, q4⟩ := hz3
  clear h
  go_enter Tryd.func31, Tryd.ntmps31
  go_wp2_with (at_builtin; (refine wpList_append_wide w rfl (.const (.slice none 0 0)) (.tmp 3) 31 rfl w.heap.size 71 i0 hi0 8 56 Tryd.underlying31 hz0 hz1 q3 q4 hz2 (by decide) (.slice none 0 0) 0 [] rfl hown w.heap.size A n c (flat 8 insF l) rfl hr (fun u hu => insF_two hu) (by unfold maxLen; omega) (by omega) (Nat.le_refl _) ?_; intro v' w' hown' hg'))
  have HO := Lib.hid (show OwnR 71 8 insF w' w.heap.size v' l by
    unfold OwnR
    rw [hl]
    rw [Nat.zero_add, List.nil_append] at hown'
    exact hown')
  have HB := Lib.hid (show Below w.heap.size w w' from (Below.refl _ _).grown hg' (Nat.le_refl _) (fun k hk => by simp [Value.ownBlock] at hk))
  obtain ⟨A', m', c', hv, -⟩ := HO.out.form
  subst hv
  go_ret
  exact ⟨_, rfl, HO.out, HB.out⟩
theorem own_ne {α : Type} {e : TypeId} {s : Nat} {f : α → Nat → Value} {W W' : World} {g base : Nat} {v : Value} {l : List α} {t : TypeId} {cs : Array Value} (h : OwnR e s f W base v l) (ht : Touch g W W') (hb : Blk W g t cs) (h1 : e ≠ t) : OwnR e s f W' base v l :=
  own_keep h fun b hb2 hlt => ht.block b hlt fun eb => by
    subst eb
    rcases h.2 with ⟨hv, -⟩ | ⟨g2, cap, cur, hv, -, hh, -⟩
    · rw [hv] at hb2; cases hb2
    · rw [hv] at hb2
      injection hb2 with hb2
      subst hb2
      have hq : some (Obj.cells cur e (0, 0)) = some (Obj.cells cs t (0, 0)) := hh.symm.trans hb
      injection hq with hq
      injection hq with _ hq
      exact h1 hq
theorem cs_of {w : World} {base : Nat} {v : Value} {l : List Ins} (h : OwnR 71 8 insF w base v l) : ∃ A n c, v = .slice A n c ∧ Cs w A n c l := by
  obtain ⟨A, m, c, hv, hm, hc, hr, -⟩ := h.form
  exact ⟨A, m, c, hv, ⟨Lib.hid hm.out.symm, hc, rows_code hr⟩⟩
structure OwnPg (w : World) (base : Nat) (vd vt vc : Value) (k : Pg) : Prop where
  data : OwnB w base vd k.data
  tabs : OwnR 69 2 tabF w base vt k.tabs
  code : OwnR 71 8 insF w base vc k.code
theorem pgAt_of {w : World} {base : Nat} {vd vt vc : Value} {k : Pg} (h1 : OwnB w base vd k.data) (h2 : OwnR 69 2 tabF w base vt k.tabs) (h3 : OwnR 71 8 insF w base vc k.code) : PgAt w vd vt vc k := by
  obtain ⟨A, m, c, hv, hm, hc, hr, -⟩ := h2.form
  exact ⟨own_full h1, ⟨A, m, c, hv, ⟨Lib.hid hm.out.symm, hc, hr⟩⟩, cs_of h3⟩
def CopPgO (w : World) (k : Pg) (e : Ending) (w' : World) : Prop := ∃ vd vt vc, e = .returned (.agg (arr 5 (pkF k.lo k.hi vd vt vc))) ∧ OwnPg w' w.heap.size vd vt vc k ∧ Below w.heap.size w w'
structure CpG (gb gr : Nat) (X : Nat → Value) (W : World) : Prop where
  box : FB W gb 33 5 X
  res : ∃ f, FB W gr 33 5 f
  ne : gb ≠ gr
set_option maxHeartbeats 4000000 in
theorem copyProgram_own (w : World) (k : Pg) (vd vt vc : Value) (hk : PgAt w vd vt vc k) (hdl : k.data.length ≤ 140737488355328) (hcl : k.code.length ≤ 2513169434880) (htl : k.tabs.length ≤ 8796093022208) :
    Calls Tryd.prog 22 #[.agg (arr 5 (pkF k.lo k.hi vd vt vc))] w (CopPgO w k) := by
  obtain ⟨⟨Ad, nd, cd, rfl, hD⟩, ⟨At, nt, ct, rfl, hT⟩, Ac, nc, cc, rfl, hC⟩ := hk
  obtain ⟨lo, hi, data, tabs, code⟩ := k
  simp only at hD hT hC hdl hcl htl ⊢
  have HD := Lib.hid hD
  have HT := Lib.hid hT
  have HC := Lib.hid hC
  have hnd : nd ≤ 140737488355328 := by have := hD.len.out; omega
  have hnc : nc ≤ 2513169434880 := by have := hC.len.out; omega
  have hnt : nt ≤ 8796093022208 := by have := hT.len.out; omega
  obtain ⟨X, hX⟩ : ∃ X, X = pkF lo hi (.slice Ad nd cd) (.slice At nt ct) (.slice Ac nc cc) := ⟨_, rfl⟩
  rw [← hX]
  have HX := Lib.hid hX
  clear hX hD hT hC hdl hcl htl
  go_enter Tryd.func22, Tryd.ntmps22
  go_upto_region 1 with (first
    | (refine wpList_box_seg rfl _ (.tmp 0) rfl 5 X rfl ?_; intro w1 h1 hB1 hs1)
    | (refine wpList_alloc_seg rfl 33 rfl 5 zeroPkF zeroPg ?_; intro w2 h2 hB2 hs2))
  obtain ⟨gb, hgb⟩ : ∃ gb, gb = w.heap.size := ⟨_, rfl⟩
  obtain ⟨gr, hgr⟩ : ∃ gr, gr = w1.heap.size := ⟨_, rfl⟩
  rw [← hgb] at h1 ⊢
  rw [← hgr] at h2 ⊢
  have hb2 : Below w.heap.size w w2 := hB1.trans (hB2.mono hB1.size)
  have HB2 := Lib.hid hb2
  have HS := Lib.hid (show CpG gb gr X w2 from ⟨h1.up hB2, ⟨_, h2⟩, by omega⟩)
  have HGR := Lib.hid (show w.heap.size ≤ gr ∧ gr < w2.heap.size by omega)
  clear h1 hB1 hs1 h2 hB2 hs2 hgb hgr hb2
  refine wp_region_held_drew (S := fun W => CpG gb gr X W) (by kernel_rfl) ⟨HS.out.box.drewN 1, HS.out.res.imp fun _ h => h.drewN 1, HS.out.ne⟩ (fun hHeld => ?_)
  refine wpAnyH_take (i := 0) (oi := { dst := some 3, op := Op.fieldAddr 33 (Operand.tmp 1) 0, type := 0, pos := "plain.go:86", after := #[], guard := none }) (v := .pointer (some ⟨gb, 0, none⟩)) rfl (by kernel_rfl) (by kernel_rfl) (by kernel_rfl) (fun _ _ _ h => h) (Or.inl ⟨by rfl, ?_⟩) (by assumption) ?_
  · intro w hSw
    go_simp
  try simp only [Act.put, List.setIfInBounds_toArray, List.set_cons_zero, List.set_cons_succ]
  refine wpAnyH_take (i := 1) (oi := { dst := some 4, op := Op.load 3 (Operand.tmp 3), type := 3, pos := "plain.go:86", after := #[{ on := 0, ground := Ground.data }], guard := none }) (v := .int .i64 lo) rfl (by kernel_rfl) (by kernel_rfl) (by kernel_rfl) (fun _ _ _ h => h) (Or.inl ⟨by rfl, ?_⟩) (by assumption) ?_
  · intro w hSw
    have q0 : w.cell? ⟨gb, 0, none⟩ = some (.int .i64 lo) := by rw [hSw.box.cell 0 (by decide), HX.out]; rfl
    go_simp
  try simp only [Act.put, List.setIfInBounds_toArray, List.set_cons_zero, List.set_cons_succ]
  refine wpAnyH_take (i := 2) (oi := { dst := some 5, op := Op.fieldAddr 33 (Operand.tmp 1) 1, type := 0, pos := "plain.go:86", after := #[], guard := none }) (v := .pointer (some ⟨gb, 1, none⟩)) rfl (by kernel_rfl) (by kernel_rfl) (by kernel_rfl) (fun _ _ _ h => h) (Or.inl ⟨by rfl, ?_⟩) (by assumption) ?_
  · intro w hSw
    go_simp
  try simp only [Act.put, List.setIfInBounds_toArray, List.set_cons_zero, List.set_cons_succ]
  refine wpAnyH_take (i := 3) (oi := { dst := some 6, op := Op.load 3 (Operand.tmp 5), type := 3, pos := "plain.go:86", after := #[{ on := 2, ground := Ground.data }], guard := none }) (v := .int .i64 hi) rfl (by kernel_rfl) (by kernel_rfl) (by kernel_rfl) (fun _ _ _ h => h) (Or.inl ⟨by rfl, ?_⟩) (by assumption) ?_
  · intro w hSw
    have q0 : w.cell? ⟨gb, 1, none⟩ = some (.int .i64 hi) := by rw [hSw.box.cell 1 (by decide), HX.out]; rfl
    go_simp
  try simp only [Act.put, List.setIfInBounds_toArray, List.set_cons_zero, List.set_cons_succ]
  refine wpAnyH_take (i := 4) (oi := { dst := some 7, op := Op.fieldAddr 33 (Operand.tmp 1) 2, type := 0, pos := "plain.go:86", after := #[], guard := none }) (v := .pointer (some ⟨gb, 2, none⟩)) rfl (by kernel_rfl) (by kernel_rfl) (by kernel_rfl) (fun _ _ _ h => h) (Or.inl ⟨by rfl, ?_⟩) (by assumption) ?_
  · intro w hSw
    go_simp
  try simp only [Act.put, List.setIfInBounds_toArray, List.set_cons_zero, List.set_cons_succ]
  refine wpAnyH_take (i := 5) (oi := { dst := some 8, op := Op.load 22 (Operand.tmp 7), type := 22, pos := "plain.go:86", after := #[{ on := 4, ground := Ground.data }], guard := none }) (v := .slice Ad nd cd) rfl (by kernel_rfl) (by kernel_rfl) (by kernel_rfl) (fun _ _ _ h => h) (Or.inl ⟨by rfl, ?_⟩) (by assumption) ?_
  · intro w hSw
    have q0 : w.cell? ⟨gb, 2, none⟩ = some (.slice Ad nd cd) := by rw [hSw.box.cell 2 (by decide), HX.out]; rfl
    go_simp
  try simp only [Act.put, List.setIfInBounds_toArray, List.set_cons_zero, List.set_cons_succ]
  refine wpAnyH_take (i := 7) (oi := { dst := some 10, op := Op.fieldAddr 33 (Operand.tmp 1) 3, type := 0, pos := "plain.go:86", after := #[], guard := none }) (v := .pointer (some ⟨gb, 3, none⟩)) rfl (by kernel_rfl) (by kernel_rfl) (by kernel_rfl) (fun _ _ _ h => h) (Or.inl ⟨by rfl, ?_⟩) (by assumption) ?_
  · intro w hSw
    go_simp
  try simp only [Act.put, List.setIfInBounds_toArray, List.set_cons_zero, List.set_cons_succ]
  refine wpAnyH_take (i := 8) (oi := { dst := some 11, op := Op.load 23 (Operand.tmp 10), type := 23, pos := "plain.go:86", after := #[{ on := 7, ground := Ground.data }], guard := none }) (v := .slice At nt ct) rfl (by kernel_rfl) (by kernel_rfl) (by kernel_rfl) (fun _ _ _ h => h) (Or.inl ⟨by rfl, ?_⟩) (by assumption) ?_
  · intro w hSw
    have q0 : w.cell? ⟨gb, 3, none⟩ = some (.slice At nt ct) := by rw [hSw.box.cell 3 (by decide), HX.out]; rfl
    go_simp
  try simp only [Act.put, List.setIfInBounds_toArray, List.set_cons_zero, List.set_cons_succ]
  refine wpAnyH_take (i := 10) (oi := { dst := some 13, op := Op.fieldAddr 33 (Operand.tmp 1) 4, type := 0, pos := "plain.go:86", after := #[], guard := none }) (v := .pointer (some ⟨gb, 4, none⟩)) rfl (by kernel_rfl) (by kernel_rfl) (by kernel_rfl) (fun _ _ _ h => h) (Or.inl ⟨by rfl, ?_⟩) (by assumption) ?_
  · intro w hSw
    go_simp
  try simp only [Act.put, List.setIfInBounds_toArray, List.set_cons_zero, List.set_cons_succ]
  refine wpAnyH_take (i := 11) (oi := { dst := some 14, op := Op.load 31 (Operand.tmp 13), type := 31, pos := "plain.go:86", after := #[{ on := 10, ground := Ground.data }], guard := none }) (v := .slice Ac nc cc) rfl (by kernel_rfl) (by kernel_rfl) (by kernel_rfl) (fun _ _ _ h => h) (Or.inl ⟨by rfl, ?_⟩) (by assumption) ?_
  · intro w hSw
    have q0 : w.cell? ⟨gb, 4, none⟩ = some (.slice Ac nc cc) := by rw [hSw.box.cell 4 (by decide), HX.out]; rfl
    go_simp
  try simp only [Act.put, List.setIfInBounds_toArray, List.set_cons_zero, List.set_cons_succ]
  refine wpAnyH_ready (rs := [6]) (by kernel_rfl) (by simp) ?_
  refine AllReadyH.cons (o := { dst := some 9, op := Op.call { callee := Callee.value (Operand.func 27), args := #[Operand.tmp 8], argTypes := #[22] }, type := 22, pos := "plain.go:86", after := #[{ on := 5, ground := Ground.data }], guard := none }) rfl ?_ ?_
  rotate_left
  · exact AllReadyH.nil
  intro K hK
  go_simp
  go_at_call 27
  refine (copyBytes_own w2.drew Ad nd cd data ((HD.out.up HB2.out).up (below_drewN (Below.refl _ _) 1)) hnd).mono ?_
  rintro e w3 ⟨v3, rfl, hO3, hB3⟩
  have HB3 := Lib.hid (show Below w.heap.size w w3 from (below_drewN HB2.out 1).trans (hB3.mono HB2.out.size))
  have HS3 := Lib.hid (show CpG gb gr X w3 from ⟨hHeld.box.up hB3, hHeld.res.imp fun _ h => h.up hB3, hHeld.ne⟩)
  have HO3 := Lib.hid (OwnB_base (base' := w.heap.size) hO3 HB2.out.size)
  have HGR3 := Lib.hid (show gr < w3.heap.size from Nat.lt_of_lt_of_le HGR.out.2 hB3.size)
  clear hO3 hB3 hHeld
  obtain ⟨A3, n3, c3, rfl, -⟩ := own_full HO3.out
  go_simp
  refine hK.out _ _ HS3.out (fun hHeld => ?_)
  clear hK K
  try simp only [Act.put, List.setIfInBounds_toArray, List.set_cons_zero, List.set_cons_succ]
  refine wpAnyH_ready (rs := [9]) (by kernel_rfl) (by simp) ?_
  refine AllReadyH.cons (o := { dst := some 12, op := Op.call { callee := Callee.value (Operand.func 10), args := #[Operand.tmp 11], argTypes := #[23] }, type := 23, pos := "plain.go:86", after := #[{ on := 8, ground := Ground.data }, { on := 6, ground := Ground.chain }], guard := none }) rfl ?_ ?_
  rotate_left
  · exact AllReadyH.nil
  intro K hK
  go_simp
  go_at_call 10
  refine (copyTables_own w3 At nt ct tabs (HT.out.up HB3.out) hnt).mono ?_
  rintro e w4 ⟨v4, rfl, hO4, hB4⟩
  have HB4 := Lib.hid (show Below w.heap.size w w4 from HB3.out.trans (hB4.mono HB3.out.size))
  have HS4 := Lib.hid (show CpG gb gr X w4 from ⟨hHeld.box.up hB4, hHeld.res.imp fun _ h => h.up hB4, hHeld.ne⟩)
  have HO4 := Lib.hid (ownR_base (base' := w.heap.size) hO4 HB3.out.size)
  have HO34 := Lib.hid (ownB_up HO3.out hB4)
  have HGR4 := Lib.hid (show gr < w4.heap.size from Nat.lt_of_lt_of_le HGR3.out hB4.size)
  clear hO4 hB4 hHeld HO3 HS3
  obtain ⟨A4, n4, c4, rfl, -⟩ := HO4.out.form
  go_simp
  refine hK.out _ _ HS4.out (fun hHeld => ?_)
  clear hK K
  try simp only [Act.put, List.setIfInBounds_toArray, List.set_cons_zero, List.set_cons_succ]
  refine wpAnyH_ready (rs := [12]) (by kernel_rfl) (by simp) ?_
  refine AllReadyH.cons (o := { dst := some 15, op := Op.call { callee := Callee.value (Operand.func 31), args := #[Operand.tmp 14], argTypes := #[31] }, type := 31, pos := "plain.go:86", after := #[{ on := 11, ground := Ground.data }, { on := 9, ground := Ground.chain }], guard := none }) rfl ?_ ?_
  rotate_left
  · exact AllReadyH.nil
  intro K hK
  go_simp
  go_at_call 31
  refine (copyCode_own w4 Ac nc cc code (HC.out.up HB4.out) hnc).mono ?_
  rintro e w5 ⟨v5, rfl, hO5, hB5⟩
  have HB5 := Lib.hid (show Below w.heap.size w w5 from HB4.out.trans (hB5.mono HB4.out.size))
  have HS5 := Lib.hid (show CpG gb gr X w5 from ⟨hHeld.box.up hB5, hHeld.res.imp fun _ h => h.up hB5, hHeld.ne⟩)
  have HO5 := Lib.hid (ownR_base (base' := w.heap.size) hO5 HB4.out.size)
  have HO35 := Lib.hid (ownB_up HO34.out hB5)
  have HO45 := Lib.hid (HO4.out.up hB5)
  clear hO5 hB5 hHeld HO34 HO4 HS4
  obtain ⟨A5, n5, c5, rfl, -⟩ := HO5.out.form
  go_simp
  refine hK.out _ _ HS5.out (fun hHeld => ?_)
  clear hK K
  try simp only [Act.put, List.setIfInBounds_toArray, List.set_cons_zero, List.set_cons_succ]
  refine wpAnyH_take (i := 13) (oi := { dst := some 16, op := Op.build 33 #[(0, Operand.tmp 4), (1, Operand.tmp 6), (2, Operand.tmp 9), (3, Operand.tmp 12), (4, Operand.tmp 15)], type := 33, pos := "plain.go:86", after := #[{ on := 1, ground := Ground.data }, { on := 3, ground := Ground.data }, { on := 6, ground := Ground.data }, { on := 9, ground := Ground.data }, { on := 12, ground := Ground.data }], guard := none }) (v := .agg #[.int .i64 lo, .int .i64 hi, .slice A3 n3 c3, .slice A4 n4 c4, .slice A5 n5 c5]) rfl (by kernel_rfl) (by kernel_rfl) (by kernel_rfl) (fun _ _ _ h => h) (Or.inl ⟨by rfl, ?_⟩) (by assumption) ?_
  · intro w hSw
    go_simp
  try simp only [Act.put, List.setIfInBounds_toArray, List.set_cons_zero, List.set_cons_succ]
  clear hHeld
  refine wpAnyH_ready (rs := [14]) (by kernel_rfl) (by simp) ?_
  refine AllReadyH.cons (o := { dst := none, op := Op.store 33 (Operand.tmp 2) (Operand.tmp 16), type := 0, pos := "plain.go:86", after := #[{ on := 13, ground := Ground.data }, { on := 12, ground := Ground.chain }, { on := 0, ground := Ground.phase }, { on := 1, ground := Ground.phase }, { on := 2, ground := Ground.phase }, { on := 3, ground := Ground.phase }, { on := 4, ground := Ground.phase }, { on := 5, ground := Ground.phase }, { on := 6, ground := Ground.phase }, { on := 7, ground := Ground.phase }, { on := 8, ground := Ground.phase }, { on := 9, ground := Ground.phase }, { on := 10, ground := Ground.phase }, { on := 11, ground := Ground.phase }, { on := 12, ground := Ground.phase }, { on := 13, ground := Ground.phase }], guard := none }) rfl ?_ ?_
  rotate_left
  · exact AllReadyH.nil
  intro K hK
  obtain ⟨fo, hfo⟩ := HS5.out.res
  refine step_store_seg (by rfl) 33 _ _ rfl gr 0 33 5 5 fo (pkF lo hi (.slice A3 n3 c3) (.slice A4 n4 c4) (.slice A5 n5 c5)) rfl rfl hfo (by omega) sizePg (pkF_one rfl rfl rfl) ?_
  intro w6 h6 hT6 hs6
  have H6 := Lib.hid (show FB w6 gr 33 5 (pkF lo hi (.slice A3 n3 c3) (.slice A4 n4 c4) (.slice A5 n5 c5)) from h6.congr fun q hq => by unfold updR; rw [if_pos (by omega), Nat.sub_zero])
  have HS6 := Lib.hid (show CpG gb gr X w6 from ⟨HS5.out.box.touch hT6 HS5.out.ne, ⟨_, H6.out⟩, HS5.out.ne⟩)
  have HP6 := Lib.hid (show OwnPg w6 w.heap.size (.slice A3 n3 c3) (.slice A4 n4 c4) (.slice A5 n5 c5) ⟨lo, hi, data, tabs, code⟩ from ⟨ownB_touch HO35.out hT6 hfo (by decide), ownT_touch HO45.out hT6 hfo (by decide), own_ne HO5.out hT6 hfo (by decide)⟩)
  have HB6 := Lib.hid (show Below w.heap.size w w6 from HB5.out.trans (hT6.below HGR.out.1 HB5.out.size))
  clear h6 hT6 hs6 hfo
  refine hK.out _ _ HS6.out (fun hHeld => ?_)
  clear hK K
  try simp only [Act.put, List.setIfInBounds_toArray, List.set_cons_zero, List.set_cons_succ]
  clear hHeld
  refine wpAnyH_done (by kernel_rfl) ?_ _
  go_wp2_with fail
  refine bodyPost_ret (result_seg rfl _ _ gr _ 5 _ _ rfl H6.out Tryd.underlying33 rfl sizePg) rfl ⟨_, _, _, rfl, HP6.out, HB6.out⟩
def CopPg (w : World) (k : Pg) (e : Ending) (w' : World) : Prop := ∃ vd vt vc, e = .returned (.agg (arr 5 (pkF k.lo k.hi vd vt vc))) ∧ PgAt w' vd vt vc k ∧ Below w.heap.size w w'
theorem copyProgram_any (w : World) (k : Pg) (vd vt vc : Value) (hk : PgAt w vd vt vc k) (hdl : k.data.length ≤ 140737488355328) (hcl : k.code.length ≤ 2513169434880) (htl : k.tabs.length ≤ 8796093022208) :
    Calls Tryd.prog 22 #[.agg (arr 5 (pkF k.lo k.hi vd vt vc))] w (CopPg w k) :=
  (copyProgram_own w k vd vt vc hk hdl hcl htl).mono fun e w' ⟨vd, vt, vc, he, ho, hb⟩ => ⟨vd, vt, vc, he, pgAt_of ho.data ho.tabs ho.code, hb⟩
def samePg (a b : Pg) : Bool := decide (a.lo = b.lo) && (decide (a.hi = b.hi) && (decide (a.data = b.data) && (decide (a.tabs = b.tabs) && decide (a.code = b.code))))
theorem samePg_iff (a b : Pg) : samePg a b = true ↔ a = b := by
  obtain ⟨a1, a2, a3, a4, a5⟩ := a
  obtain ⟨b1, b2, b3, b4, b5⟩ := b
  unfold samePg
  simp only [Bool.and_eq_true, decide_eq_true_eq, Pg.mk.injEq]
set_option maxHeartbeats 8000000 in
theorem sameProgram_any (w : World) (a b : Pg) (vd vt vc vd' vt' vc' : Value) (ha : PgAt w vd vt vc a) (hb : PgAt w vd' vt' vc' b) (hda : Bytes a.data) (hdb : Bytes b.data) (hcl : a.code.length ≤ 4611686018427387904) (hta : a.tabs.length ≤ 1152921504606846976) (htb : b.tabs.length ≤ 1152921504606846976) :
    Calls Tryd.prog 17 #[.agg (arr 5 (pkF a.lo a.hi vd vt vc)), .agg (arr 5 (pkF b.lo b.hi vd' vt' vc'))] w (RetB w (.bool (samePg a b))) := by
  obtain ⟨⟨Ad, nd, cd, rfl, hD⟩, ⟨At, nt, ct, rfl, hT⟩, Ac, nc, cc, rfl, hC⟩ := ha
  obtain ⟨⟨Bd, md, dd, rfl, kD⟩, ⟨Bt, mt, dt, rfl, kT⟩, Bc, mc, dc, rfl, kC⟩ := hb
  obtain ⟨lo, hi, data, tabs, code⟩ := a
  obtain ⟨lo', hi', data', tabs', code'⟩ := b
  simp only at hD hT hC kD kT kC hda hdb hcl hta htb ⊢
  have HSD := Lib.hid (fun (W : World) (hW : Below w.heap.size w W) => sameBytes_any W Ad nd cd Bd md dd data data' hD.len.out kD.len.out (hD.up hW).byt (kD.up hW).byt hda hdb)
  have HSC := Lib.hid (fun (W : World) (hW : Below w.heap.size w W) => lawCode_both W Ac nc cc Bc mc dc code code' hC.len.out kC.len.out (by have := hC.len.out; omega) (hC.up hW).row (kC.up hW).row)
  have HST := Lib.hid (fun (W : World) (hW : Below w.heap.size w W) => sameTables_any W At nt ct Bt mt dt tabs tabs' (hT.up hW) (kT.up hW) (by have := hT.len.out; omega) (by have := kT.len.out; omega))
  obtain ⟨X, hX⟩ : ∃ X, X = pkF lo hi (.slice Ad nd cd) (.slice At nt ct) (.slice Ac nc cc) := ⟨_, rfl⟩
  obtain ⟨Y, hY⟩ : ∃ Y, Y = pkF lo' hi' (.slice Bd md dd) (.slice Bt mt dt) (.slice Bc mc dc) := ⟨_, rfl⟩
  rw [← hX, ← hY]
  have HX := Lib.hid hX
  have HY := Lib.hid hY
  clear hX hY hD hT hC kD kT kC hda hdb hcl hta htb
  obtain ⟨r, hr⟩ : ∃ r, r = samePg ⟨lo, hi, data, tabs, code⟩ ⟨lo', hi', data', tabs', code'⟩ := ⟨_, rfl⟩
  rw [← hr]
  have HRV := Lib.hid (show r = (decide (lo = lo') && (decide (hi = hi') && (decide (data = data') && (decide (tabs = tabs') && decide (code = code'))))) from hr)
  clear hr
  go_enter Tryd.func17, Tryd.ntmps17
  go_upto_region 1 with (first
    | (refine wpList_box_seg rfl _ (.tmp 0) rfl 5 X rfl ?_; intro w1 h1 hB1 hs1; clear hs1)
    | (refine wpList_box_seg rfl _ (.tmp 1) rfl 5 Y rfl ?_; intro w2 h2 hB2 hs2))
  obtain ⟨ga, hga⟩ : ∃ g, g = w.heap.size := ⟨_, rfl⟩
  obtain ⟨gb, hgb⟩ : ∃ g, g = w1.heap.size := ⟨_, rfl⟩
  rw [← hga] at h1 ⊢
  rw [← hgb] at h2 ⊢
  have HB := Lib.hid (show Below w.heap.size w w2 from hB1.trans (hB2.mono hB1.size))
  have HFA := Lib.hid (h1.up hB2)
  have HFB := Lib.hid h2
  have HCA := Lib.hid (show ∀ W, Below w2.heap.size w2 W → W.cell? ⟨ga, 0, none⟩ = some (.int .i64 lo) ∧ W.cell? ⟨ga, 1, none⟩ = some (.int .i64 hi) ∧ W.cell? ⟨ga, 2, none⟩ = some (.slice Ad nd cd) ∧ W.cell? ⟨ga, 3, none⟩ = some (.slice At nt ct) ∧ W.cell? ⟨ga, 4, none⟩ = some (.slice Ac nc cc) from fun W hW => by
    have h3 := HFA.out.up hW
    rw [HX.out] at h3
    exact ⟨h3.cell 0 (by decide), h3.cell 1 (by decide), h3.cell 2 (by decide), h3.cell 3 (by decide), h3.cell 4 (by decide)⟩)
  have HCB := Lib.hid (show ∀ W, Below w2.heap.size w2 W → W.cell? ⟨gb, 0, none⟩ = some (.int .i64 lo') ∧ W.cell? ⟨gb, 1, none⟩ = some (.int .i64 hi') ∧ W.cell? ⟨gb, 2, none⟩ = some (.slice Bd md dd) ∧ W.cell? ⟨gb, 3, none⟩ = some (.slice Bt mt dt) ∧ W.cell? ⟨gb, 4, none⟩ = some (.slice Bc mc dc) from fun W hW => by
    have h3 := HFB.out.up hW
    rw [HY.out] at h3
    exact ⟨h3.cell 0 (by decide), h3.cell 1 (by decide), h3.cell 2 (by decide), h3.cell 3 (by decide), h3.cell 4 (by decide)⟩)
  obtain ⟨x0, x1, x2, x3, x4⟩ := HCA.out w2 (Below.refl _ _)
  obtain ⟨y0, y1, y2, y3, y4⟩ := HCB.out w2 (Below.refl _ _)
  clear h1 hB1 h2 hB2 hs2 hga hgb
  have HSD2 := Lib.hid (HSD.out w2 HB.out)
  have HST2 := Lib.hid (HST.out w2 HB.out)
  clear HSD HST
  by_cases e0 : lo = lo'
  case neg =>
    have t0 : (lo == lo') = false := by rw [beq_eq_false_iff_ne]; exact e0
    rw [decide_eq_false e0] at HRV
    clear e0
    go_wp2_with fail
    go_ret
    exact ⟨ret_bool (by rw [HRV.out]; rfl), HB.out⟩
  have t0 : (lo == lo') = true := by rw [beq_iff_eq]; exact e0
  rw [decide_eq_true e0] at HRV
  clear e0
  by_cases e1 : hi = hi'
  case neg =>
    have t1 : (hi == hi') = false := by rw [beq_eq_false_iff_ne]; exact e1
    rw [decide_eq_false e1] at HRV
    clear e1
    go_wp2_with fail
    go_ret
    exact ⟨ret_bool (by rw [HRV.out]; rfl), HB.out⟩
  have t1 : (hi == hi') = true := by rw [beq_iff_eq]; exact e1
  rw [decide_eq_true e1] at HRV
  clear e1
  cases e2 : decide (data = data')
  case false =>
    rw [e2] at HSD2 HRV
    clear e2
    go_wp2_with (go_at_call 29; refine HSD2.out.mono ?_; rintro e u ⟨rfl, rfl⟩)
    go_ret
    exact ⟨ret_bool (by rw [HRV.out]; rfl), HB.out⟩
  rw [e2] at HSD2 HRV
  clear e2
  cases e3 : decide (tabs = tabs')
  case false =>
    rw [e3] at HST2 HRV
    clear e3
    go_wp2_with (first
      | (go_at_call 29; refine HSD2.out.mono ?_; rintro e u ⟨rfl, rfl⟩)
      | (go_at_call 43; refine HST2.out.mono ?_; rintro e w3 ⟨rfl, hB3⟩))
    go_ret
    exact ⟨ret_bool (by rw [HRV.out]; rfl), HB.out.trans (hB3.mono HB.out.size)⟩
  rw [e3] at HST2 HRV
  clear e3
  go_wp2_with (first
    | (go_at_call 29; refine HSD2.out.mono ?_; rintro e u ⟨rfl, rfl⟩)
    | (go_at_call 43; refine HST2.out.mono ?_; rintro e w3 ⟨rfl, hB3⟩; obtain ⟨z0, z1, z2, z3, z4⟩ := HCA.out w3 hB3; obtain ⟨s0, s1, s2, s3, s4⟩ := HCB.out w3 hB3; have HB3 := Lib.hid hB3)
    | (go_at_call 44; refine (HSC.out w3 (HB.out.trans (HB3.out.mono HB.out.size))).mono ?_; rintro e w5 ⟨rfl, hB5⟩; have HB5 := Lib.hid hB5))
  go_ret
  exact ⟨ret_bool (by rw [HRV.out]; rfl), (HB.out.trans (HB3.out.mono HB.out.size)).trans (HB5.out.mono (Nat.le_trans HB.out.size HB3.out.size))⟩
end Go.Proofs.YtlodoinmippebaaDoor.Pak
