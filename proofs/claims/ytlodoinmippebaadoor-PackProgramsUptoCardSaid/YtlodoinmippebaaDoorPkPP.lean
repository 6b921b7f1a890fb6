/- Texts in one: PkPa PkPb PkPc PkPd. -/
import Derived.Test.YtlodoinmippebaaDoorPakB
import Derived.Test.YtlodoinmippebaaDoorCodeO
/- Programs as containers, plain mathematics over package code's: what Check, Of and Program answer, and what follows. -/
namespace Go.Proofs.YtlodoinmippebaaDoor.Pak
open Go.ChangeShapes Go.WideShapes Go.ChangeAt Go.RowKit
open Cod
set_option linter.unusedVariables false
set_option linter.unusedSimpArgs false
set_option maxRecDepth 100000
structure Pg where
  lo : Int
  hi : Int
  data : List Int
  tabs : List (Int × Int)
  code : List Ins
def Pg.none : Pg := ⟨0, 0, [], [], []⟩
def beyondI (d : Int) (i : Ins) : Bool := decide (i.op = 21) && decide (d < i.imm)
/-- what instructions lack as a program's: where, and which error -/
def lostL (L : List Ins) (d : Int) : Int × Int := if L = [] then (0, 26) else if 0 ≤ idxF (beyondI d) 0 L then (idxF (beyondI d) 0 L, 123) else (0, 0)
def checkG (p : Pg) : Int × Int :=
  if sizesE p.lo p.hi p.tabs p.data.length ≠ 0 then (0, sizesE p.lo p.hi p.tabs p.data.length)
  else if (checkL p.code 0).2 ≠ 0 then checkL p.code 0 else lostL p.code p.data.length
def ofG (p : Pg) : Pk := ⟨p.lo, p.hi, p.data, p.tabs, encB p.code⟩
def progG (k : Pk) : (Int × Int) × Pg :=
  if sizesE k.lo k.hi k.tabs k.data.length ≠ 0 then ((0, sizesE k.lo k.hi k.tabs k.data.length), Pg.none)
  else if (D k.code 0 0).1 ≠ 0 then (((D k.code 0 0).2.1, (D k.code 0 0).1), Pg.none)
  else if (lostL (D k.code 0 0).2.2 k.data.length).2 ≠ 0 then ((uAt (D k.code 0 0).2.2 (lostL (D k.code 0 0).2.2 k.data.length).1.toNat, (lostL (D k.code 0 0).2.2 k.data.length).2), Pg.none)
  else ((0, 0), ⟨k.lo, k.hi, k.data, k.tabs, (D k.code 0 0).2.2⟩)
theorem lost_zero {L : List Ins} {d : Int} (h : (lostL L d).2 = 0) : L ≠ [] ∧ (lostL L d).1 = 0 := by
  unfold lostL at h ⊢
  by_cases h0 : L = []
  · rw [if_pos h0] at h; cases h
  · rw [if_neg h0] at h ⊢
    by_cases h1 : 0 ≤ idxF (beyondI d) 0 L
    · rw [if_pos h1] at h; cases h
    · rw [if_neg h1]; exact ⟨h0, rfl⟩
theorem lost_rng (L : List Ins) (d : Int) : ∃ j : Nat, (lostL L d).1 = j ∧ j ≤ L.length ∧ ((lostL L d).2 = 0 ∨ (lostL L d).2 = 26 ∨ (lostL L d).2 = 123) := by
  unfold lostL
  by_cases h0 : L = []
  · rw [if_pos h0]; exact ⟨0, rfl, Nat.zero_le _, .inr (.inl rfl)⟩
  · rw [if_neg h0]
    by_cases h1 : 0 ≤ idxF (beyondI d) 0 L
    · rw [if_pos h1]
      obtain ⟨q, e, hq, -⟩ := idxF_spec (beyondI d) L 0 (idxF (beyondI d) 0 L).toNat (by omega)
      exact ⟨(idxF (beyondI d) 0 L).toNat, by show idxF (beyondI d) 0 L = _; omega, by omega, .inr (.inr rfl)⟩
    · rw [if_neg h1]; exact ⟨0, rfl, Nat.zero_le _, .inl rfl⟩
theorem check_of {p : Pg} (h0 : sizesE p.lo p.hi p.tabs p.data.length = 0) (h1 : (checkL p.code 0).2 = 0) : checkG p = lostL p.code p.data.length := by
  unfold checkG
  rw [if_neg (by simpa using h0), if_neg (by simpa using h1)]
theorem isLong_units (L : List Ins) : ∀ j, j ≤ L.length → uAt L j ≤ unitsN L := fun j hj => by
  have h1 := unitsN_append (L.take j) (L.drop j)
  rw [List.take_append_drop] at h1
  have h2 := uAt_end (L.take j)
  have h3 : uAt L j = uAt (L.take j) (L.take j).length := by
    unfold uAt
    rw [List.length_take, Nat.min_eq_left hj, List.take_take, Nat.min_self]
  rw [h3, h2, h1]
  omega
theorem prog_err {k : Pk} (hB : BytesL k.code) (h : (progG k).1.2 ≠ 0) : (progG k).2 = Pg.none ∧ 0 ≤ (progG k).1.1 ∧ (progG k).1.1 ≤ (k.code.length / 8 : Nat) := by
  unfold progG at h ⊢
  by_cases h0 : sizesE k.lo k.hi k.tabs k.data.length = 0
  case neg => rw [if_pos h0]; exact ⟨rfl, Int.le_refl _, by show (0 : Int) ≤ _; omega⟩
  rw [if_neg (by simpa using h0)] at h ⊢
  by_cases h1 : (D k.code 0 0).1 = 0
  case neg =>
    rw [if_pos h1]
    have := (D_fault hB h1).2
    exact ⟨rfl, by show (0 : Int) ≤ ((D k.code 0 0).2.1 : Int); omega, by show (((D k.code 0 0).2.1 : Nat) : Int) ≤ _; omega⟩
  rw [if_neg (by simpa using h1)] at h ⊢
  by_cases h2 : (lostL (D k.code 0 0).2.2 k.data.length).2 = 0
  case neg =>
    rw [if_pos h2]
    obtain ⟨j, e, hj, -⟩ := lost_rng (D k.code 0 0).2.2 k.data.length
    obtain ⟨-, -, he, -⟩ := D_forth hB h1
    have hu := isLong_units (D k.code 0 0).2.2 j hj
    have hlen := encB_len (D k.code 0 0).2.2
    rw [he] at hlen
    have hr := uAt_rng (D k.code 0 0).2.2 j
    refine ⟨rfl, ?_, ?_⟩
    · show 0 ≤ uAt _ (lostL _ _).1.toNat; rw [e, Int.toNat_natCast]; exact hr.1
    · show uAt _ (lostL _ _).1.toNat ≤ _; rw [e, Int.toNat_natCast]; omega
  rw [if_neg (by simpa using h2)] at h
  exact absurd rfl h
/-- a container that is read as a program is that program's container -/
theorem faithful {k : Pk} (hB : BytesL k.code) (h : (progG k).1.2 = 0) : (progG k).1 = (0, 0) ∧ checkG (progG k).2 = (0, 0) ∧ ofG (progG k).2 = k ∧ (checkL (progG k).2.code 0).2 = 0 ∧ encB (progG k).2.code = k.code ∧ (progG k).2.code ≠ [] ∧ (∀ i ∈ (progG k).2.code, Good i) ∧ (progG k).2.code.length ≤ 4096 := by
  unfold progG at h ⊢
  by_cases h0 : sizesE k.lo k.hi k.tabs k.data.length = 0
  case neg => rw [if_pos h0] at h; exact absurd h h0
  rw [if_neg (by simpa using h0)] at h ⊢
  by_cases h1 : (D k.code 0 0).1 = 0
  case neg => rw [if_pos h1] at h; exact absurd h h1
  rw [if_neg (by simpa using h1)] at h ⊢
  by_cases h2 : (lostL (D k.code 0 0).2.2 k.data.length).2 = 0
  case neg => rw [if_pos h2] at h; exact absurd h h2
  rw [if_neg (by simpa using h2)]
  obtain ⟨hg, hl, he, -⟩ := D_forth hB h1
  have hck := good_check hg hl
  obtain ⟨z1, z2⟩ := lost_zero h2
  refine ⟨rfl, ?_, ?_, ?_, he, z1, hg, hl⟩
  · rw [check_of h0 (by show (checkL (D k.code 0 0).2.2 0).2 = 0; rw [hck])]
    show lostL (D k.code 0 0).2.2 k.data.length = (0, 0)
    exact Prod.ext z2 h2
  · show (⟨k.lo, k.hi, k.data, k.tabs, encB (D k.code 0 0).2.2⟩ : Pk) = k
    rw [he]
  · show (checkL (D k.code 0 0).2.2 0).2 = 0; rw [hck]
end Go.Proofs.YtlodoinmippebaaDoor.Pak
/- Programs in memory: copied, held against each other. Laid by wip/tools/mkpkpb.py out of XPkT and XPkU. -/
namespace Go.Proofs.YtlodoinmippebaaDoor.Pak
open Go.ChangeShapes Go.WideShapes Go.ChangeAt Go.RowKit
open Cod
set_option linter.unusedVariables false
set_option linter.unusedSimpArgs false
set_option maxRecDepth 100000
def insF (i : Ins) : Nat → Value
  | 0 => .int .i64 i.op
  | 1 => .bool i.nar
  | 2 => .bool i.reg
  | 3 => .int .i64 i.size
  | 4 => .int .i64 i.dst
  | 5 => .int .i64 i.src
  | 6 => .int .i64 i.off
  | _ => .int .i64 i.imm
theorem rows_code {w : World} {A : Option Addr} {L : List Ins} (h : RowsAt w A 8 insF L) : CodeAt w A L := fun hp => by
  obtain ⟨b, off, e, hl, hc⟩ := h hp
  exact ⟨b, off, e, hl, fun j i hj => ⟨hc j i hj 0 (by decide), hc j i hj 1 (by decide), hc j i hj 2 (by decide), hc j i hj 3 (by decide), hc j i hj 4 (by decide), hc j i hj 5 (by decide), hc j i hj 6 (by decide), hc j i hj 7 (by decide)⟩⟩
theorem code_rows {w : World} {A : Option Addr} {L : List Ins} (h : CodeAt w A L) : RowsAt w A 8 insF L := fun hp => by
  obtain ⟨b, off, e, hl, hc⟩ := h hp
  refine ⟨b, off, e, hl, fun j i hj k hk => ?_⟩
  obtain ⟨h0, h1, h2, h3, h4, h5, h6, h7⟩ := hc j i hj
  rcases (show k = 0 ∨ k = 1 ∨ k = 2 ∨ k = 3 ∨ k = 4 ∨ k = 5 ∨ k = 6 ∨ k = 7 by omega) with rfl | rfl | rfl | rfl | rfl | rfl | rfl | rfl <;> assumption
/-- instructions in memory that a slice tells -/
structure Cs (w : World) (A : Option Addr) (n c : Nat) (L : List Ins) : Prop where
  len : Hid (L.length = n)
  cap : n ≤ c
  row : CodeAt w A L
theorem Cs.up {w w' : World} {A : Option Addr} {n c : Nat} {L : List Ins} (h : Cs w A n c L) (hb : Below w.heap.size w w') : Cs w' A n c L := ⟨h.len, h.cap, h.row.below hb⟩
/-- a program in memory -/
structure PgAt (w : World) (vd vt vc : Value) (p : Pg) : Prop where
  data : ∃ A n c, vd = .slice A n c ∧ Sl w A n c p.data
  tabs : ∃ A n c, vt = .slice A n c ∧ Tb w A n c p.tabs
  code : ∃ A n c, vc = .slice A n c ∧ Cs w A n c p.code
theorem zeroPg : (Tryd.prog.info? 33).bind (fun i => i.zero.map Value.cells) = some (arr 5 zeroPkF) := by kernel_rfl
theorem sizePg : (Tryd.prog.info? 33).map (·.size) = some 5 := by kernel_rfl
theorem own_ne {α : Type} {e : TypeId} {s : Nat} {f : α → Nat → Value} {W W' : World} {g base : Nat} {v : Value} {l : List α} {t : TypeId} {cs : Array Value} (h : OwnR e s f W base v l) (ht : Touch g W W') (hb : Blk W g t cs) (h1 : e ≠ t) : OwnR e s f W' base v l :=
  own_keep h fun b hb2 hlt => ht.block b hlt fun eb => by
    subst eb
    rcases h.2 with ⟨hv, -⟩ | ⟨g2, cap, cur, hv, -, hh, -⟩
    · rw [hv] at hb2; cases hb2
    · rw [hv] at hb2
      injection hb2 with hb2
      subst hb2
      have hq : some (Obj.cells cur e (0, 0)) = some (Obj.cells cs t (0, 0)) := hh.symm.trans hb
      injection hq with hq
      injection hq with _ hq
      exact h1 hq
theorem cs_of {w : World} {base : Nat} {v : Value} {l : List Ins} (h : OwnR 71 8 insF w base v l) : ∃ A n c, v = .slice A n c ∧ Cs w A n c l := by
  obtain ⟨A, m, c, hv, hm, hc, hr, -⟩ := h.form
  exact ⟨A, m, c, hv, ⟨Lib.hid hm.out.symm, hc, rows_code hr⟩⟩
structure OwnPg (w : World) (base : Nat) (vd vt vc : Value) (k : Pg) : Prop where
  data : OwnB w base vd k.data
  tabs : OwnR 69 2 tabF w base vt k.tabs
  code : OwnR 71 8 insF w base vc k.code
theorem pgAt_of {w : World} {base : Nat} {vd vt vc : Value} {k : Pg} (h1 : OwnB w base vd k.data) (h2 : OwnR 69 2 tabF w base vt k.tabs) (h3 : OwnR 71 8 insF w base vc k.code) : PgAt w vd vt vc k := by
  obtain ⟨A, m, c, hv, hm, hc, hr, -⟩ := h2.form
  exact ⟨own_full h1, ⟨A, m, c, hv, ⟨Lib.hid hm.out.symm, hc, hr⟩⟩, cs_of h3⟩
def CopPgO (w : World) (k : Pg) (e : Ending) (w' : World) : Prop := ∃ vd vt vc, e = .returned (.agg (arr 5 (pkF k.lo k.hi vd vt vc))) ∧ OwnPg w' w.heap.size vd vt vc k ∧ Below w.heap.size w w'
structure CpG (gb gr : Nat) (X : Nat → Value) (W : World) : Prop where
  box : FB W gb 33 5 X
  res : ∃ f, FB W gr 33 5 f
  ne : gb ≠ gr
def CopPg (w : World) (k : Pg) (e : Ending) (w' : World) : Prop := ∃ vd vt vc, e = .returned (.agg (arr 5 (pkF k.lo k.hi vd vt vc))) ∧ PgAt w' vd vt vc k ∧ Below w.heap.size w w'
def samePg (a b : Pg) : Bool := decide (a.lo = b.lo) && (decide (a.hi = b.hi) && (decide (a.data = b.data) && (decide (a.tabs = b.tabs) && decide (a.code = b.code))))
theorem samePg_iff (a b : Pg) : samePg a b = true ↔ a = b := by
  obtain ⟨a1, a2, a3, a4, a5⟩ := a
  obtain ⟨b1, b2, b3, b4, b5⟩ := b
  unfold samePg
  simp only [Bool.and_eq_true, decide_eq_true_eq, Pg.mk.injEq]
set_option maxHeartbeats 8000000 in
theorem sameProgram_any (w : World) (a b : Pg) (vd vt vc vd' vt' vc' : Value) (ha : PgAt w vd vt vc a) (hb : PgAt w vd' vt' vc' b) (hda : Bytes a.data) (hdb : Bytes b.data) (hcl : a.code.length ≤ 4611686018427387904) (hta : a.tabs.length ≤ 1152921504606846976) (htb : b.tabs.length ≤ 1152921504606846976) :
    Calls Tryd.prog 17 #[.agg (arr 5 (pkF a.lo a.hi vd vt vc)), .agg (arr 5 (pkF b.lo b.hi vd' vt' vc'))] w (RetB w (.bool (samePg a b))) := by
  obtain ⟨⟨Ad, nd, cd, rfl, hD⟩, ⟨At, nt, ct, rfl, hT⟩, Ac, nc, cc, rfl, hC⟩ := ha
  obtain ⟨⟨Bd, md, dd, rfl, kD⟩, ⟨Bt, mt, dt, rfl, kT⟩, Bc, mc, dc, rfl, kC⟩ := hb
  obtain ⟨lo, hi, data, tabs, code⟩ := a
  obtain ⟨lo', hi', data', tabs', code'⟩ := b
  simp only at hD hT hC kD kT kC hda hdb hcl hta htb ⊢
  have HSD := Lib.hid (fun (W : World) (hW : Below w.heap.size w W) => sameBytes_any W Ad nd cd Bd md dd data data' hD.len.out kD.len.out (hD.up hW).byt (kD.up hW).byt hda hdb)
  have HSC := Lib.hid (fun (W : World) (hW : Below w.heap.size w W) => lawCode_both W Ac nc cc Bc mc dc code code' hC.len.out kC.len.out (by have := hC.len.out; omega) (hC.up hW).row (kC.up hW).row)
  have HST := Lib.hid (fun (W : World) (hW : Below w.heap.size w W) => sameTables_any W At nt ct Bt mt dt tabs tabs' (hT.up hW) (kT.up hW) (by have := hT.len.out; omega) (by have := kT.len.out; omega))
  obtain ⟨X, hX⟩ : ∃ X, X = pkF lo hi (.slice Ad nd cd) (.slice At nt ct) (.slice Ac nc cc) := ⟨_, rfl⟩
  obtain ⟨Y, hY⟩ : ∃ Y, Y = pkF lo' hi' (.slice Bd md dd) (.slice Bt mt dt) (.slice Bc mc dc) := ⟨_, rfl⟩
  rw [← hX, ← hY]
  have HX := Lib.hid hX
  have HY := Lib.hid hY
  clear hX hY hD hT hC kD kT kC hda hdb hcl hta htb
  obtain ⟨r, hr⟩ : ∃ r, r = samePg ⟨lo, hi, data, tabs, code⟩ ⟨lo', hi', data', tabs', code'⟩ := ⟨_, rfl⟩
  rw [← hr]
  have HRV := Lib.hid (show r = (decide (lo = lo') && (decide (hi = hi') && (decide (data = data') && (decide (tabs = tabs') && decide (code = code'))))) from hr)
  clear hr
  go_enter Tryd.func17, Tryd.ntmps17
  go_upto_region 1 with (first
    | (refine wpList_box_seg rfl _ (.tmp 0) rfl 5 X rfl ?_; intro w1 h1 hB1 hs1; clear hs1)
    | (refine wpList_box_seg rfl _ (.tmp 1) rfl 5 Y rfl ?_; intro w2 h2 hB2 hs2))
  obtain ⟨ga, hga⟩ : ∃ g, g = w.heap.size := ⟨_, rfl⟩
  obtain ⟨gb, hgb⟩ : ∃ g, g = w1.heap.size := ⟨_, rfl⟩
  rw [← hga] at h1 ⊢
  rw [← hgb] at h2 ⊢
  have HB := Lib.hid (show Below w.heap.size w w2 from hB1.trans (hB2.mono hB1.size))
  have HFA := Lib.hid (h1.up hB2)
  have HFB := Lib.hid h2
  have HCA := Lib.hid (show ∀ W, Below w2.heap.size w2 W → W.cell? ⟨ga, 0, none⟩ = some (.int .i64 lo) ∧ W.cell? ⟨ga, 1, none⟩ = some (.int .i64 hi) ∧ W.cell? ⟨ga, 2, none⟩ = some (.slice Ad nd cd) ∧ W.cell? ⟨ga, 3, none⟩ = some (.slice At nt ct) ∧ W.cell? ⟨ga, 4, none⟩ = some (.slice Ac nc cc) from fun W hW => by
    have h3 := HFA.out.up hW
    rw [HX.out] at h3
    exact ⟨h3.cell 0 (by decide), h3.cell 1 (by decide), h3.cell 2 (by decide), h3.cell 3 (by decide), h3.cell 4 (by decide)⟩)
  have HCB := Lib.hid (show ∀ W, Below w2.heap.size w2 W → W.cell? ⟨gb, 0, none⟩ = some (.int .i64 lo') ∧ W.cell? ⟨gb, 1, none⟩ = some (.int .i64 hi') ∧ W.cell? ⟨gb, 2, none⟩ = some (.slice Bd md dd) ∧ W.cell? ⟨gb, 3, none⟩ = some (.slice Bt mt dt) ∧ W.cell? ⟨gb, 4, none⟩ = some (.slice Bc mc dc) from fun W hW => by
    have h3 := HFB.out.up hW
    rw [HY.out] at h3
    exact ⟨h3.cell 0 (by decide), h3.cell 1 (by decide), h3.cell 2 (by decide), h3.cell 3 (by decide), h3.cell 4 (by decide)⟩)
  obtain ⟨x0, x1, x2, x3, x4⟩ := HCA.out w2 (Below.refl _ _)
  obtain ⟨y0, y1, y2, y3, y4⟩ := HCB.out w2 (Below.refl _ _)
  clear h1 hB1 h2 hB2 hs2 hga hgb
  have HSD2 := Lib.hid (HSD.out w2 HB.out)
  have HST2 := Lib.hid (HST.out w2 HB.out)
  clear HSD HST
  by_cases e0 : lo = lo'
  case neg =>
    have t0 : (lo == lo') = false := by rw [beq_eq_false_iff_ne]; exact e0
    rw [decide_eq_false e0] at HRV
    clear e0
    go_wp2_with fail
    go_ret
    exact ⟨ret_bool (by rw [HRV.out]; rfl), HB.out⟩
  have t0 : (lo == lo') = true := by rw [beq_iff_eq]; exact e0
  rw [decide_eq_true e0] at HRV
  clear e0
  by_cases e1 : hi = hi'
  case neg =>
    have t1 : (hi == hi') = false := by rw [beq_eq_false_iff_ne]; exact e1
    rw [decide_eq_false e1] at HRV
    clear e1
    go_wp2_with fail
    go_ret
    exact ⟨ret_bool (by rw [HRV.out]; rfl), HB.out⟩
  have t1 : (hi == hi') = true := by rw [beq_iff_eq]; exact e1
  rw [decide_eq_true e1] at HRV
  clear e1
  cases e2 : decide (data = data')
  case false =>
    rw [e2] at HSD2 HRV
    clear e2
    go_wp2_with (go_at_call 29; refine HSD2.out.mono ?_; rintro e u ⟨rfl, rfl⟩)
    go_ret
    exact ⟨ret_bool (by rw [HRV.out]; rfl), HB.out⟩
  rw [e2] at HSD2 HRV
  clear e2
  cases e3 : decide (tabs = tabs')
  case false =>
    rw [e3] at HST2 HRV
    clear e3
    go_wp2_with (first
      | (go_at_call 29; refine HSD2.out.mono ?_; rintro e u ⟨rfl, rfl⟩)
      | (go_at_call 43; refine HST2.out.mono ?_; rintro e w3 ⟨rfl, hB3⟩))
    go_ret
    exact ⟨ret_bool (by rw [HRV.out]; rfl), HB.out.trans (hB3.mono HB.out.size)⟩
  rw [e3] at HST2 HRV
  clear e3
  go_wp2_with (first
    | (go_at_call 29; refine HSD2.out.mono ?_; rintro e u ⟨rfl, rfl⟩)
    | (go_at_call 43; refine HST2.out.mono ?_; rintro e w3 ⟨rfl, hB3⟩; obtain ⟨z0, z1, z2, z3, z4⟩ := HCA.out w3 hB3; obtain ⟨s0, s1, s2, s3, s4⟩ := HCB.out w3 hB3; have HB3 := Lib.hid hB3)
    | (go_at_call 44; refine (HSC.out w3 (HB.out.trans (HB3.out.mono HB.out.size))).mono ?_; rintro e w5 ⟨rfl, hB5⟩; have HB5 := Lib.hid hB5))
  go_ret
  exact ⟨ret_bool (by rw [HRV.out]; rfl), (HB.out.trans (HB3.out.mono HB.out.size)).trans (HB5.out.mono (Nat.le_trans HB.out.size HB3.out.size))⟩
end Go.Proofs.YtlodoinmippebaaDoor.Pak
/- Package pack: what instructions lack as a program's; Check. -/
namespace Go.Proofs.YtlodoinmippebaaDoor.Pak
open Go.ChangeShapes Go.WideShapes Go.ChangeAt Go.RowKit
open Cod
set_option linter.unusedVariables false
set_option linter.unusedSimpArgs false
set_option maxRecDepth 100000
theorem sizeIns : (Tryd.prog.info? 71).map (·.size) = some 8 := by kernel_rfl
set_option maxHeartbeats 1000000 in
theorem beyond_any (i : Ins) (d : Int) (g : Nat) (w : World) (hg : w.cell? ⟨g, 0, none⟩ = some (.int .i64 d)) (hlt : g < w.heap.size) :
    Calls Tryd.prog 67 #[.agg (arr 8 (insF i)), .pointer (some ⟨g, 0, none⟩)] w (RetB w (.bool (beyondI d i))) := by
  obtain ⟨T, hT⟩ : ∃ T, T = insF i := ⟨_, rfl⟩
  rw [← hT]
  have HTT := Lib.hid hT
  have HG := Lib.hid hg
  have HLT := Lib.hid hlt
  clear hT hg hlt
  obtain ⟨op, nar, reg, size, dst, src, off, imm⟩ := i
  unfold beyondI
  go_enter Tryd.func67, Tryd.ntmps67
  go_upto_region 1 with (refine wpList_box_seg rfl _ (.tmp 0) rfl 8 T rfl ?_; intro w1 h1 hB1 hs1)
  obtain ⟨gb, hgb⟩ : ∃ gb, gb = w.heap.size := ⟨_, rfl⟩
  rw [← hgb] at h1 ⊢
  have x0 : w1.cell? ⟨gb, 0, none⟩ = some (.int .i64 op) := by rw [h1.cell 0 (by decide), HTT.out]; rfl
  have x7 : w1.cell? ⟨gb, 7, none⟩ = some (.int .i64 imm) := by rw [h1.cell 7 (by decide), HTT.out]; rfl
  have xg : w1.cell? ⟨g, 0, none⟩ = some (.int .i64 d) := (hB1.cell (p := ⟨g, 0, none⟩) HLT.out).trans HG.out
  have HB := Lib.hid hB1
  clear h1 hB1 hs1 hgb HTT
  by_cases e1 : op = 21
  · subst e1
    go_wp2_with fail
    go_ret
    exact ⟨ret_bool (by simp), HB.out⟩
  · have t1 : (op == 21) = false := by rw [beq_eq_false_iff_ne]; exact e1
    have HE := Lib.hid e1
    clear e1
    go_wp2_with fail
    go_ret
    exact ⟨ret_bool (by rw [decide_eq_false HE.out]; rfl), HB.out⟩
set_option maxHeartbeats 2000000 in
theorem index_ins (w : World) (A : Option Addr) (n c : Nat) (T : List Ins) (hL : T.length = n) (hn : n ≤ 1152921504606846976) (hA : RowsAt w A 8 insF T) (K : Nat) (q : Option Addr) (p : Ins → Bool)
    (hen : ∀ (a : Array Value) (W : World), (callFunc K a).run Tryd.prog W = .ok (.enter K a) W)
    (hf : ∀ x W, Below w.heap.size w W → Calls Tryd.prog K #[.agg (arr 8 (insF x)), .pointer q] W (RetB W (.bool (p x)))) :
    Calls Tryd.prog 68 #[.slice A n c, .func (.func K) #[] #[.pointer q]] w (RetB w (.int .i64 (idxF p 0 T))) := by
  have HL := Lib.hid hL
  have HA := Lib.hid hA
  have HF := Lib.hid hf
  clear hL hA hf
  go_enter Tryd.func68, Tryd.ntmps68
  go_wp2_with fail
  go_loopw [5, 8, 9, 10, 11, 12, 13, 14, 15, 16, 18] (fun _ a8 _ _ _ _ _ _ _ _ _ wr => ∃ (j : Nat), a8 = .int .i64 j ∧ j ≤ n ∧ Hid (idxF p j (T.drop j) = idxF p 0 T) ∧ RowsAt wr A 8 insF T ∧ Below w.heap.size w wr) (fun _ a8 _ _ _ _ _ _ _ _ _ _ => (n - (intOf a8)).toNat)
  case atStart => exact ⟨0, rfl, Nat.zero_le _, Lib.hid rfl, HA.out, Below.refl _ _⟩
  case round =>
    obtain ⟨j, rfl, hj, HE, hT, hB⟩ := hrel
    have HT := Lib.hid hT
    have HB := Lib.hid hB
    clear hT hB HA
    by_cases hlt : j < n
    · have hlt' : (j : Int) < n := by omega
      obtain ⟨x, hx, hdr⟩ := drop_cons (l := T) (j := j) (by have := HL.out; omega)
      rw [hdr] at HE
      obtain ⟨b, off, rfl, hbl, hcell⟩ := HT.out (by have := HL.out; omega)
      have HX := Lib.hid (hcell j x hx)
      clear hdr hcell hx
      obtain ⟨X, hX⟩ : ∃ X, X = insF x := ⟨_, rfl⟩
      rw [← hX] at HX
      have HXX := Lib.hid hX
      clear hX
      go_wp2_with (refine wpList_load_cells rfl 71 _ rfl b (off + j * 8) rfl 8 X _ HX.out Tryd.underlying71 rfl sizeIns ?_)
      rw [HXX.out]
      refine (HF.out x wr HB.out).mono ?_
      rintro e w2 ⟨rfl, hB2⟩
      have HB2 := Lib.hid (HB.out.trans (hB2.mono HB.out.size))
      have HT2 := Lib.hid (HT.out.below hB2)
      have HE' := HE.out
      change (if p x = true then (j : Int) else idxF p (j + 1) (T.drop (j + 1))) = idxF p 0 T at HE'
      clear hB2 HX HB HT HE
      cases hp : p x
      · rw [hp, if_neg (by simp)] at HE'
        have HE2 := Lib.hid HE'
        clear HE' hp
        go_wp2_with fail
        go_roundw
        case rel => exact ⟨j + 1, by go_num, by omega, HE2, HT2.out, HB2.out⟩
        case measure => simp [intOf]; omega
      · rw [hp, if_pos rfl] at HE'
        have HE2 := Lib.hid HE'
        clear HE' hp
        go_wp2_with fail
        go_ret
        exact ⟨ret_i64 HE2.out, HB2.out⟩
    · obtain rfl : j = n := by omega
      have HE2 := Lib.hid (show -1 = idxF p 0 T by rw [← HE.out, List.drop_of_length_le (by have := HL.out; omega)]; rfl)
      clear hlt HE
      go_wp2_with fail
      go_ret
      exact ⟨ret_i64 HE2.out, HB.out⟩

set_option maxHeartbeats 2000000 in
theorem lost_any (w : World) (A : Option Addr) (n c : Nat) (L : List Ins) (d : Int) (hL : L.length = n) (hn : n ≤ 1152921504606846976) (h : CodeAt w A L) :
    Calls Tryd.prog 35 #[.slice A n c, .int .i64 d] w (RetB w (.tuple #[.int .i64 (lostL L d).1, .int .i64 (lostL L d).2])) := by
  have HA := Lib.hid h
  have HL := Lib.hid hL
  clear h hL
  obtain ⟨r, hr⟩ : ∃ r, r = lostL L d := ⟨_, rfl⟩
  rw [← hr]
  have HR := Lib.hid hr
  clear hr
  unfold lostL at HR
  go_enter Tryd.func35, Tryd.ntmps35
  have hbx := below_box w (.cells #[.int .i64 d] 3)
  have hnew : (w.alloc (.cells #[.int .i64 d] 3)).cell? ⟨w.heap.size, 0, none⟩ = some (.int .i64 d) := by
    have := (Blk.new w 3 #[.int .i64 d]).cell 0
    simp
  have HB := Lib.hid hbx
  have HN := Lib.hid hnew
  clear hbx hnew
  by_cases h0 : n = 0
  · subst h0
    have HE := Lib.hid (show L = [] from List.eq_nil_of_length_eq_zero HL.out)
    rw [if_pos HE.out] at HR
    go_wp2_with fail
    go_ret2
    exact ⟨by rw [HR.out]; rfl, HB.out⟩
  · have t0 : ((n : Int) == 0) = false := by rw [beq_eq_false_iff_ne]; omega
    have HE := Lib.hid (show L ≠ [] from fun e => h0 (by rw [← HL.out, e]; rfl))
    rw [if_neg HE.out] at HR
    have HK := Lib.hid (index_ins (w.alloc (.cells #[.int .i64 d] 3)) A n c L HL.out hn (code_rows (HA.out.below HB.out)) 67 (some ⟨w.heap.size, 0, none⟩) (beyondI d) (fun a W => by kernel_rfl) (fun x W hW => beyond_any x d w.heap.size W ((hW.cell (p := ⟨w.heap.size, 0, none⟩) (by simp)).trans HN.out) (Nat.lt_of_lt_of_le (by simp) hW.size)))
    obtain ⟨z, hz⟩ : ∃ z, z = idxF (beyondI d) 0 L := ⟨_, rfl⟩
    rw [← hz] at HR HK
    clear hz h0
    have hc : decide (0 ≤ z) = true ∨ decide (0 ≤ z) = false := by cases decide (0 ≤ z) <;> simp
    rcases hc with t1 | t1
    · have HR2 := Lib.hid (show r = (z, 123) by rw [HR.out, if_pos (of_decide_eq_true t1)])
      go_wp2_with (go_at_call 68; refine HK.out.mono ?_; rintro e w2 ⟨rfl, hB2⟩)
      go_ret2
      exact ⟨by rw [HR2.out]; rfl, HB.out.trans (hB2.mono HB.out.size)⟩
    · have HR2 := Lib.hid (show r = (0, 0) by rw [HR.out, if_neg (of_decide_eq_false t1)])
      go_wp2_with (go_at_call 68; refine HK.out.mono ?_; rintro e w2 ⟨rfl, hB2⟩)
      go_ret2
      exact ⟨by rw [HR2.out]; rfl, HB.out.trans (hB2.mono HB.out.size)⟩
structure SmallG (p : Pg) : Prop where
  data : p.data.length ≤ 140737488355328
  code : p.code.length ≤ 2513169434880
  tabs : p.tabs.length ≤ 8796093022208
  bd : Bytes p.data
  rng : ∀ i ∈ p.code, i.rng
end Go.Proofs.YtlodoinmippebaaDoor.Pak
/- Package pack: Of and Program. Laid by wip/tools/mkpkpd.py. -/
namespace Go.Proofs.YtlodoinmippebaaDoor.Pak
open Go.ChangeShapes Go.WideShapes Go.ChangeAt Go.RowKit
open Cod
set_option linter.unusedVariables false
set_option linter.unusedSimpArgs false
set_option maxRecDepth 100000
section
variable {P : Program} {ops : Array Oper} {Q : Exit → Act → World → Prop} {md : Region.Mode} {S S' : World → Prop}
/-- the condition of a region that draws may be made stronger midway -/
theorem wpAnyH_stronger (h : ∀ w, S' w → S w) : ∀ (fuel : Nat) (listed : Array Bool) (a : Act) (w : World), wpAnyH P md ops Q S' fuel listed a w → wpAnyH P md ops Q S fuel listed a w
  | 0, _, _, _, k => k
  | fuel + 1, _, _, _, k => ⟨k.1, fun i hi => wpOp_mono (fun a' w' k' => ⟨h _ k'.1, wpAnyH_stronger h fuel _ a' w' k'.2⟩) (k.2 i hi)⟩
end
def CopEndT (w : World) (L : List (Int × Int)) (e : Ending) (w' : World) : Prop := ∃ v, e = .returned v ∧ OwnR 69 2 tabF w' w.heap.size v L ∧ Below w.heap.size w w'
set_option maxHeartbeats 2000000 in
theorem copiedT_any (w : World) (A : Option Addr) (n c : Nat) (L : List (Int × Int)) (h : Tb w A n c L) (hn : n ≤ 8796093022208) :
    Calls Tryd.prog 38 #[.slice A n c] w (CopEndT w L) := by
  have HS := Lib.hid h
  clear h
  go_enter Tryd.func38, Tryd.ntmps38
  by_cases h0 : n = 0
  · subst h0
    have HL := Lib.hid (show L = [] from List.eq_nil_of_length_eq_zero HS.out.len.out)
    go_wp2_with fail
    go_ret
    exact ⟨_, rfl, by rw [HL.out]; exact OwnR.nil _ _ _ _ _, Below.refl _ _⟩
  · have t0 : ((n : Int) == 0) = false := by rw [beq_eq_false_iff_ne]; omega
    have t0' : ((n : Int) = 0) = False := by simp; omega
    obtain ⟨b, off, rfl, hbl, hcell⟩ := HS.out.row (by have := HS.out.len.out; omega)
    have hmk := run_make_seg (P := Tryd.prog) w 23 69 2 16 (tabF (0, 0)) n Tryd.underlying23 infoT (by decide) (by omega) (by omega)
    have hb1 := below_box w (.cells (arr (n * 2) fun q => tabF (0, 0) (q % 2)) 69)
    have hf1 := FB.new w 69 (n * 2) (fun q => tabF (0, 0) (q % 2))
    obtain ⟨w1, hw1⟩ : ∃ w1, w1 = w.alloc (.cells (arr (n * 2) fun q => tabF (0, 0) (q % 2)) 69) := ⟨_, rfl⟩
    rw [← hw1] at hmk hb1 hf1
    have HF := Lib.hid hf1
    have HB := Lib.hid hb1
    have HC := Lib.hid (show ∀ q, q < n * 2 → w1.cell? ⟨b, off + q, none⟩ = some (tabF (L[q / 2]?.getD (0, 0)) (q % 2)) from fun q hq => by
      have hq2 : q / 2 < L.length := by have := HS.out.len.out; omega
      have hg := hcell (q / 2) _ (List.getElem?_eq_getElem hq2) (q % 2) (Nat.mod_lt _ (by decide))
      rw [show off + q / 2 * 2 + q % 2 = off + q by omega] at hg
      rw [List.getElem?_eq_getElem hq2]
      exact (cell_same (hb1.block b hbl) _).trans hg)
    clear hw1 hf1 hb1 hcell h0
    go_wp2_with (refine wpList_copy_cells rfl (.tmp 10) (.tmp 11) 23 23 rfl 69 2 w.heap.size 0 n n b off n c n 69 (n * 2) _ (fun q => tabF (L[q / 2]?.getD (0, 0)) (q % 2)) rfl rfl Tryd.underlying23 sizeTab (Nat.min_self _) HF.out HC.out (by omega) (fun q _ => tabF_one _ _ (Nat.mod_lt _ (by decide))) ?_; intro w2 h2 hT2 hs2)
    go_ret
    refine ⟨_, rfl, (own_of_fb n HS.out.len.out h2 (Nat.le_refl _) (by unfold maxLen; omega) fun j x hj k hk => ?_), HB.out.trans (hT2.below (Nat.le_refl _) HB.out.size)⟩
    have hjn : j < n := by
      rcases Nat.lt_or_ge j L.length with h1 | h1
      · have := HS.out.len.out; omega
      · rw [List.getElem?_eq_none h1] at hj; cases hj
    unfold updR
    rw [if_pos (by omega), show j * 2 + k - 0 = j * 2 + k by omega]
    show tabF (L[(j * 2 + k) / 2]?.getD (0, 0)) ((j * 2 + k) % 2) = _
    rw [show (j * 2 + k) / 2 = j by omega, show (j * 2 + k) % 2 = k by omega, hj]
    rfl
theorem OwnR.form_row {w : World} {base m c : Nat} {A : Option Addr} {α : Type} {e : TypeId} {s : Nat} {f : α → Nat → Value} {l : List α} (h : OwnR e s f w base (.slice A m c) l) : RowsAt w A s f l := by
  obtain ⟨A', m', c', hv, -, -, hr, -⟩ := OwnR.form h
  injection hv with h1 h2 h3
  subst h1
  exact hr
theorem ownR_one {α : Type} {e : TypeId} {s : Nat} {f : α → Nat → Value} {w : World} {base : Nat} {v : Value} {l : List α} (h : OwnR e s f w base v l) : v.oneCell' = true := by
  obtain ⟨A, m, c, e, _⟩ := h.form
  rw [e]; rfl
theorem unit_at {W : World} {N j : Nat} {M : List Ins} (h : IntBlk W N (unitsL M)) (hj : j ≤ M.length) : W.cell? ⟨N, j, none⟩ = some (.int .i64 (uAt M j)) := by
  rw [cell_of_row W N j _ _ (0, 0) h]
  unfold unitsL
  simp [List.getElem?_map, List.getElem?_range (show j < M.length + 1 by omega)]
theorem IntBlk.lt' {W : World} {N : Nat} {L : List Int} (h : IntBlk W N L) : N < W.heap.size := by
  rcases Nat.lt_or_ge N W.heap.size with h1 | h1
  · exact h1
  · unfold IntBlk at h; rw [Array.getElem?_eq_none h1] at h; cases h
theorem sl_left {w : World} {A : Option Addr} {n c : Nat} {L : List Int} (h : Sl w A n c L) (hb : Bytes L) : Left w w.heap.size A n c L :=
  ⟨h.len.out, fun x hx => hb x hx, fun hp => by
    obtain ⟨b, off, e, hl, hc⟩ := h.byt (by rw [h.len.out]; exact hp)
    exact ⟨h.cap, b, off, e, hl, hc⟩⟩
structure OfS (t t' : TypeId) (gb gr : Nat) (X : Nat → Value) (W : World) : Prop where
  box : FB W gb t 5 X
  res : ∃ f, FB W gr t' 5 f
  ne : gb ≠ gr
theorem OfS.up {t t' : TypeId} {gb gr : Nat} {X : Nat → Value} {W W' : World} (h : OfS t t' gb gr X W) (hb : Below W.heap.size W W') : OfS t t' gb gr X W' := ⟨h.box.up hb, h.res.imp fun _ h1 => h1.up hb, h.ne⟩
structure OfRes (w w' : World) (p : Pg) (ck : Int × Int) (e : Ending) : Prop where
  yes : ck.2 = 0 → ∃ vd vt vc, e = .returned (.tuple #[.agg (arr 5 (pkF p.lo p.hi vd vt vc)), .int .i64 0, .int .i64 0]) ∧ OwnB w' w.heap.size vd p.data ∧ OwnR 69 2 tabF w' w.heap.size vt p.tabs ∧ OwnB w' w.heap.size vc (encB p.code)
  no : ck.2 ≠ 0 → e = .returned (.tuple #[.agg (arr 5 zeroPkF), .int .i64 ck.1, .int .i64 ck.2])
structure ProgRes (w w' : World) (pr : (Int × Int) × Pg) (e : Ending) : Prop where
  yes : pr.1.2 = 0 → ∃ vd vt vc, e = .returned (.tuple #[.agg (arr 5 (pkF pr.2.lo pr.2.hi vd vt vc)), .int .i64 0, .int .i64 0]) ∧ OwnB w' w.heap.size vd pr.2.data ∧ OwnR 69 2 tabF w' w.heap.size vt pr.2.tabs ∧ OwnR 71 8 insF w' w.heap.size vc pr.2.code
  no : pr.1.2 ≠ 0 → e = .returned (.tuple #[.agg (arr 5 zeroPkF), .int .i64 pr.1.1, .int .i64 pr.1.2])
theorem prog_same {k : Pk} (h : (progG k).1.2 = 0) : (progG k).2.lo = k.lo ∧ (progG k).2.hi = k.hi ∧ (progG k).2.data = k.data ∧ (progG k).2.tabs = k.tabs := by
  unfold progG at h ⊢
  by_cases h0 : sizesE k.lo k.hi k.tabs k.data.length = 0
  case neg => rw [if_pos h0] at h; exact absurd h h0
  rw [if_neg (by simpa using h0)] at h ⊢
  by_cases h1 : (D k.code 0 0).1 = 0
  case neg => rw [if_pos h1] at h; exact absurd h h1
  rw [if_neg (by simpa using h1)] at h ⊢
  by_cases h2 : (lostL (D k.code 0 0).2.2 k.data.length).2 = 0
  case neg => rw [if_pos h2] at h; exact absurd h h2
  rw [if_neg (by simpa using h2)]
  exact ⟨rfl, rfl, rfl, rfl⟩
theorem ownI_rows {w : World} {base : Nat} {v : Value} {L : List Ins} (h : OwnI w base v L) : OwnR 71 8 insF w base v L := h

structure UnS (gb gr N : Nat) (X : Nat → Value) (U : List Int) (W : World) : Prop where
  s : OfS 25 33 gb gr X W
  u : IntBlk W N U
set_option maxHeartbeats 8000000 in
theorem program_any (w : World) (k : Pk) (vd vt vc : Value) (hp : PkAt w vd vt vc k) (hs : Small k) (ht : Tabs w) :
    Calls Tryd.prog 11 #[.agg (arr 5 (pkF k.lo k.hi vd vt vc))] w fun e w' => Below w.heap.size w w' ∧ ProgRes w w' (progG k) e := by
  obtain ⟨⟨Ad, nd, cd, rfl, hD⟩, ⟨At, nt, ct, rfl, hT⟩, Ac, nc, cc, rfl, hC⟩ := hp
  have HD := Lib.hid hD
  have HT := Lib.hid hT
  have HN := Lib.hid (show nd ≤ 140737488355328 ∧ nt ≤ 8796093022208 from ⟨by have := hD.len.out; have := hs.data; omega, by have := hT.len.out; have := hs.tabs; omega⟩)
  have HSAME := Lib.hid (prog_same (k := k))
  obtain ⟨pr, hpr⟩ : ∃ pr, pr = progG k := ⟨_, rfl⟩
  rw [← hpr] at HSAME ⊢
  have HP := Lib.hid hpr
  unfold progG at HP
  have HDL := Lib.hid hD.len.out
  rw [hD.len.out] at HP
  have HW := Lib.hid (fun (W : World) (hW : Below w.heap.size w W) => wrong_any W k.lo k.hi At Ad nt ct nd cd k.tabs hT.len.out (by have := hT.len.out; have := hs.tabs; omega) (hT.up hW).row)
  have HDC := Lib.hid (fun (W : World) (hW : Below w.heap.size w W) => Go.Proofs.YtlodoinmippebaaDoor.decode_any W Ac nc cc k.code (sl_left (hC.up hW) hs.bc) (by have := hC.len.out; have := hs.code; omega) (ht.below hW))
  unfold Go.Proofs.YtlodoinmippebaaDoor.Decoded at HDC
  have HFO := Lib.hid (show (D k.code 0 0).1 = 0 → (D k.code 0 0).2.2.length ≤ 4096 ∧ (D k.code 0 0).2.1 = 0 from fun h => ⟨(D_forth (fun x hx => hs.bc x hx) h).2.1, (D_forth (fun x hx => hs.bc x hx) h).2.2.2⟩)
  obtain ⟨lo, hi, data, tabs, code⟩ := k
  simp only at HP HW HDC HD HT HFO HSAME HDL ⊢
  obtain ⟨ez, hez⟩ : ∃ z, z = sizesE lo hi tabs nd := ⟨_, rfl⟩
  rw [← hez] at HW HP
  obtain ⟨d, hd⟩ : ∃ d, d = D code 0 0 := ⟨_, rfl⟩
  rw [← hd] at HP HDC HFO
  obtain ⟨X, hX⟩ : ∃ X, X = pkF lo hi (.slice Ad nd cd) (.slice At nt ct) (.slice Ac nc cc) := ⟨_, rfl⟩
  rw [← hX]
  have HX := Lib.hid hX
  obtain ⟨der, dat, M⟩ := d
  simp only at HP HDC HFO
  clear hX hD hT hC hs ht hpr hez hd
  go_enter Tryd.func11, Tryd.ntmps11
  go_upto_region 1 with (first
    | (refine wpList_box_seg rfl _ (.tmp 0) rfl 5 X rfl ?_; intro w1 h1 hB1 hs1; clear hs1)
    | (refine wpList_alloc_seg rfl 33 rfl 5 zeroPkF zeroPg ?_; intro w2 h2 hB2 hs2))
  obtain ⟨gb, hgb⟩ : ∃ gb, gb = w.heap.size := ⟨_, rfl⟩
  obtain ⟨gr, hgr⟩ : ∃ gr, gr = w1.heap.size := ⟨_, rfl⟩
  rw [← hgb] at h1 ⊢
  rw [← hgr] at h2 ⊢
  have HB2 := Lib.hid (show Below w.heap.size w w2 from hB1.trans (hB2.mono hB1.size))
  have HS := Lib.hid (show OfS 25 33 gb gr X w2 from ⟨h1.up hB2, ⟨_, h2⟩, by have := h1.lt; omega⟩)
  have HGR := Lib.hid (show w.heap.size ≤ gr ∧ gr < w2.heap.size from ⟨by have := hB1.size; omega, h2.lt⟩)
  have HZ2 := Lib.hid (show FB w2 gr 33 5 zeroPkF from h2)
  clear h1 hB1 h2 hB2 hs2 hgb hgr
  have HCA := Lib.hid (show ∀ W, Below w2.heap.size w2 W → W.cell? ⟨gb, 0, none⟩ = some (.int .i64 lo) ∧ W.cell? ⟨gb, 1, none⟩ = some (.int .i64 hi) ∧ W.cell? ⟨gb, 2, none⟩ = some (.slice Ad nd cd) ∧ W.cell? ⟨gb, 3, none⟩ = some (.slice At nt ct) ∧ W.cell? ⟨gb, 4, none⟩ = some (.slice Ac nc cc) from fun W hW => by
    have h3 := HS.out.box.up hW
    rw [HX.out] at h3
    exact ⟨h3.cell 0 (by decide), h3.cell 1 (by decide), h3.cell 2 (by decide), h3.cell 3 (by decide), h3.cell 4 (by decide)⟩)
  obtain ⟨x0, x1, x2, x3, x4⟩ := HCA.out w2 (Below.refl _ _)
  go_upto_region 2 with (go_at_call 33; refine (HW.out w2 HB2.out).mono ?_; rintro e w3 ⟨rfl, hB3⟩)
  have HB32 := Lib.hid hB3
  have HB3 := Lib.hid (HB2.out.trans (hB3.mono HB2.out.size))
  have HS3 := Lib.hid (HS.out.up hB3)
  clear hB3 HW x0 x1 x2 x3 x4
  by_cases h0 : ez = 0
  case neg =>
    have t0 : (ez != 0) = true := by rw [bne_iff_ne]; exact h0
    rw [if_pos h0] at HP
    have HE := Lib.hid h0
    clear h0
    have hz := HZ2.out.up HB32.out
    go_wp2_with (refine wpList_store_all rfl 33 _ _ rfl gr 33 5 _ zeroPkF rfl rfl hz sizePg (pkF_one rfl rfl rfl) ?_; intro w9 h9 hT9 hs9)
    refine bodyPost_ret (result_ctt rfl _ _ _ _ gr _ 5 _ _ rfl h9 Tryd.underlying33 rfl sizePg rfl rfl) rfl ⟨HB3.out.trans (hT9.below HGR.out.1 HB3.out.size), ?_⟩
    rw [HP.out]; exact ⟨fun h => absurd h HE.out, fun _ => rfl⟩
  rw [if_neg (by simpa using h0)] at HP
  subst h0
  obtain ⟨x0, x1, x2, x3, x4⟩ := HCA.out w3 HB32.out
  go_upto_region 5 with (go_at_call 34; refine (HDC.out w3 HB3.out).mono ?_; rintro e w4 ⟨v4, rfl, hO4, hB4⟩; obtain ⟨A5, n5, c5, rfl, hm5, -, -, -⟩ := OwnR.form (ownI_rows hO4))
  have HM5 := Lib.hid hm5.out
  have HB42 := Lib.hid (HB32.out.trans (hB4.mono HB32.out.size))
  have HO4 := Lib.hid (ownR_base (base' := w.heap.size) (ownI_rows hO4) HB3.out.size)
  have HB4 := Lib.hid (HB3.out.trans (hB4.mono HB3.out.size))
  have HS4 := Lib.hid (HS3.out.up hB4)
  clear hB4 hO4 hm5 HDC x0 x1 x2 x3 x4 HS3 HB3 HB32
  by_cases h1 : der = 0
  case neg =>
    have t1 : (der != 0) = true := by rw [bne_iff_ne]; exact h1
    rw [if_pos h1] at HP
    have HE := Lib.hid h1
    clear h1
    have hz := HZ2.out.up HB42.out
    go_wp2_with (refine wpList_store_all rfl 33 _ _ rfl gr 33 5 _ zeroPkF rfl rfl hz sizePg (pkF_one rfl rfl rfl) ?_; intro w9 h9 hT9 hs9)
    refine bodyPost_ret (result_ctt rfl _ _ _ _ gr _ 5 _ _ rfl h9 Tryd.underlying33 rfl sizePg rfl rfl) rfl ⟨HB4.out.trans (hT9.below HGR.out.1 HB4.out.size), ?_⟩
    rw [HP.out]; exact ⟨fun h => absurd h HE.out, fun _ => rfl⟩
  rw [if_neg (by simpa using h1)] at HP
  subst h1
  obtain ⟨hM4, hda⟩ := HFO.out rfl
  have HM4 := Lib.hid hM4
  have HDA := Lib.hid hda
  clear hM4 hda
  have HLO := Lib.hid (fun (W : World) (hW : Below w4.heap.size w4 W) => lost_any W A5 n5 c5 M (nd : Int) HM5.out.symm (by have := HM5.out; have := HM4.out; omega) (rows_code (OwnR.form_row (HO4.out.up hW))))
  obtain ⟨j, hj, hjl, hjz⟩ := lost_rng M (nd : Int)
  obtain ⟨ls, hls⟩ : ∃ z, z = lostL M (nd : Int) := ⟨_, rfl⟩
  rw [← hls] at HLO HP hj hjz
  clear hls
  obtain ⟨l1, l2⟩ := ls
  simp only at HLO HP hj hjz
  subst hj
  have HJ := Lib.hid hjl
  clear hjl hjz
  obtain ⟨x0, x1, x2, x3, x4⟩ := HCA.out w4 HB42.out
  go_upto_region 8 with (go_at_call 35; refine (HLO.out w4 (Below.refl _ _)).mono ?_; rintro e w5 ⟨rfl, hB5⟩)
  have HB52 := Lib.hid (HB42.out.trans (hB5.mono HB42.out.size))
  have HB5 := Lib.hid (HB4.out.trans (hB5.mono HB4.out.size))
  have HS5 := Lib.hid (HS4.out.up hB5)
  have HO5 := Lib.hid (HO4.out.up hB5)
  clear hB5 HLO x0 x1 x2 x3 x4 HS4 HB4 HB42 HO4
  by_cases h2 : l2 = 0
  case neg =>
    have t2 : (l2 != 0) = true := by rw [bne_iff_ne]; exact h2
    rw [if_pos h2] at HP
    have HE := Lib.hid h2
    clear h2
    go_upto_region 9 with fail
    have HUN := Lib.hid (units_any w5.drew A5 n5 c5 M HM5.out.symm (by have := HM5.out; have := HM4.out; omega) (rows_code (OwnR.form_row (HO5.out.up (below_drewN (Below.refl _ _) 1)))))
    obtain ⟨N, hN⟩ : ∃ N, N = w5.drew.heap.size := ⟨_, rfl⟩
    rw [← hN] at HUN
    have HNN := Lib.hid hN
    clear hN
    have HJ2 := Lib.hid (show (j : Int) < ((n5 + 1 : Nat) : Int) ∧ (0 : Int) ≤ j from ⟨by have := HJ.out; have := HM5.out; omega, by omega⟩)
    refine wp_region_held_drew (S := fun W => OfS 25 33 gb gr X W) (by kernel_rfl) (HS5.out.up (below_drewN (Below.refl _ _) 1)) (fun hHeld => ?_)
    refine wpAnyH_take (i := 0) (oi := { dst := some 41, op := Op.build 33 #[], type := 33, pos := "pack.go:45", after := #[], guard := none }) (v := .agg #[.int .i64 0, .int .i64 0, .slice none 0 0, .slice none 0 0, .slice none 0 0]) rfl (by kernel_rfl) (by kernel_rfl) (by kernel_rfl) (fun _ _ _ h => h) (Or.inl ⟨by rfl, ?_⟩) (by assumption) ?_
    · intro w hSw
      go_simp
    try simp only [Act.put, List.setIfInBounds_toArray, List.set_cons_zero, List.set_cons_succ]
    refine wpAnyH_take (i := 1) (oi := { dst := some 42, op := Op.move (Operand.tmp 5), type := 31, pos := "pack.go:45", after := #[], guard := none }) (v := .slice A5 n5 c5) rfl (by kernel_rfl) (by kernel_rfl) (by kernel_rfl) (fun _ _ _ h => h) (Or.inl ⟨by rfl, ?_⟩) (by assumption) ?_
    · intro w hSw
      go_simp
    try simp only [Act.put, List.setIfInBounds_toArray, List.set_cons_zero, List.set_cons_succ]
    refine wpAnyH_take (i := 3) (oi := { dst := some 44, op := Op.move (Operand.tmp 3), type := 3, pos := "pack.go:45", after := #[{ on := 7, ground := Ground.gcOnly Departure.lateStores }], guard := none }) (v := .int .i64 j) rfl (by kernel_rfl) (by kernel_rfl) (by kernel_rfl) (fun _ _ _ h => h) (Or.inl ⟨by rfl, ?_⟩) (by assumption) ?_
    · intro w hSw
      go_simp
    try simp only [Act.put, List.setIfInBounds_toArray, List.set_cons_zero, List.set_cons_succ]
    refine wpAnyH_take (i := 6) (oi := { dst := some 47, op := Op.move (Operand.tmp 4), type := 34, pos := "pack.go:45", after := #[{ on := 8, ground := Ground.gcOnly Departure.lateStores }], guard := none }) (v := .int .i64 l2) rfl (by kernel_rfl) (by kernel_rfl) (by kernel_rfl) (fun _ _ _ h => h) (Or.inl ⟨by rfl, ?_⟩) (by assumption) ?_
    · intro w hSw
      go_simp
    try simp only [Act.put, List.setIfInBounds_toArray, List.set_cons_zero, List.set_cons_succ]
    refine wpAnyH_ready (rs := [2]) (by kernel_rfl) (by simp) ?_
    refine AllReadyH.cons (o := { dst := some 43, op := Op.call { callee := Callee.value (Operand.func 36), args := #[Operand.tmp 42], argTypes := #[31] }, type := 49, pos := "pack.go:45", after := #[{ on := 1, ground := Ground.data }], guard := none }) rfl ?_ ?_
    rotate_left
    · exact AllReadyH.nil
    intro K hK
    go_simp
    go_at_call 36
    refine HUN.out.mono ?_
    rintro e wa ⟨rfl, hU, hBa⟩
    rw [HNN.out] at hBa
    have HBa := Lib.hid (show Below w.heap.size w wa from (below_drewN HB5.out 1).trans (hBa.mono HB5.out.size))
    have HSa := Lib.hid (hHeld.up hBa)
    have HUa := Lib.hid hU
    have HNE := Lib.hid (show gr < N by have := HGR.out; have := HB52.out.size; have := HNN.out; simp at this; omega)
    clear hBa hHeld hU
    go_simp
    refine hK.out _ _ HSa.out (fun hHeld => ?_)
    clear hK K
    try simp only [Act.put, List.setIfInBounds_toArray, List.set_cons_zero, List.set_cons_succ]
    clear hHeld
    refine wpAnyH_stronger (S' := fun W => UnS gb gr N X (unitsL M) W) (fun _ h => h.s) _ _ _ _ ?_
    have hHeld : UnS gb gr N X (unitsL M) wa := ⟨HSa.out, HUa.out⟩
    refine wpAnyH_take (i := 4) (oi := { dst := some 45, op := Op.indexAddr 49 (Operand.tmp 43) (Operand.tmp 44), type := 0, pos := "pack.go:45", after := #[{ on := 2, ground := Ground.data }, { on := 3, ground := Ground.data }, { on := 7, ground := Ground.gcOnly Departure.lateStores }], guard := none }) (v := .pointer (some ⟨N, j, none⟩)) rfl (by kernel_rfl) (by kernel_rfl) (by kernel_rfl) (fun _ _ _ h => h) (Or.inl ⟨by rfl, ?_⟩) (by assumption) ?_
    · intro w hSw
      have q1 := HJ2.out.1
      have q2 := HJ2.out.2
      go_simp
      intro h
      exfalso
      omega
    try simp only [Act.put, List.setIfInBounds_toArray, List.set_cons_zero, List.set_cons_succ]
    refine wpAnyH_take (i := 5) (oi := { dst := some 46, op := Op.load 3 (Operand.tmp 45), type := 3, pos := "pack.go:45", after := #[{ on := 4, ground := Ground.data }, { on := 7, ground := Ground.gcOnly Departure.lateStores }], guard := none }) (v := .int .i64 (uAt M j)) rfl (by kernel_rfl) (by kernel_rfl) (by kernel_rfl) (fun _ _ _ h => h) (Or.inl ⟨by rfl, ?_⟩) (by assumption) ?_
    · intro w hSw
      have q1 : w.cell? ⟨N, j, none⟩ = some (.int .i64 (uAt M j)) := unit_at hSw.u (by have := HJ.out; omega)
      go_simp
    try simp only [Act.put, List.setIfInBounds_toArray, List.set_cons_zero, List.set_cons_succ]
    refine wpAnyH_ready (rs := [7]) (by kernel_rfl) (by simp) ?_
    refine AllReadyH.cons (o := { dst := none, op := Op.store 33 (Operand.tmp 2) (Operand.tmp 41), type := 0, pos := "pack.go:45", after := #[{ on := 0, ground := Ground.data }, { on := 2, ground := Ground.chain }, { on := 0, ground := Ground.phase }, { on := 1, ground := Ground.textOnly Departure.lateStores }, { on := 2, ground := Ground.textOnly Departure.lateStoresUnsure }, { on := 3, ground := Ground.textOnly Departure.lateStores }, { on := 4, ground := Ground.textOnly Departure.lateStores }, { on := 5, ground := Ground.textOnly Departure.lateStores }, { on := 6, ground := Ground.textOnly Departure.lateStores }], guard := none }) rfl ?_ ?_
    rotate_left
    · exact AllReadyH.nil
    intro K hK
    obtain ⟨fo, hfo⟩ := HSa.out.res
    refine step_store_seg (by rfl) 33 _ _ rfl gr 0 33 5 5 fo zeroPkF rfl rfl hfo (by omega) sizePg (pkF_one rfl rfl rfl) ?_
    intro wc hc hTc hsc
    have Hc := Lib.hid (show FB wc gr 33 5 zeroPkF from hc.congr fun q hq => by unfold updR; rw [if_pos (by omega), Nat.sub_zero])
    have HSc := Lib.hid (show UnS gb gr N X (unitsL M) wc from ⟨⟨HSa.out.box.touch hTc HSa.out.ne, ⟨_, Hc.out⟩, HSa.out.ne⟩, (hTc.block N (IntBlk.lt' HUa.out) (by have := HNE.out; omega)).trans HUa.out⟩)
    have HBc := Lib.hid (show Below w.heap.size w wc from HBa.out.trans (hTc.below HGR.out.1 HBa.out.size))
    clear hc hTc hsc hfo
    refine hK.out _ _ HSc.out (fun hHeld => ?_)
    clear hK K
    try simp only [Act.put, List.setIfInBounds_toArray, List.set_cons_zero, List.set_cons_succ]
    refine wpAnyH_take (i := 8) (oi := { dst := some 3, op := Op.assign (Operand.tmp 46), type := 3, pos := "pack.go:45", after := #[{ on := 5, ground := Ground.data }, { on := 7, ground := Ground.chain }, { on := 0, ground := Ground.phase }, { on := 1, ground := Ground.phase }, { on := 2, ground := Ground.phase }, { on := 3, ground := Ground.phase }, { on := 4, ground := Ground.phase }, { on := 5, ground := Ground.phase }, { on := 6, ground := Ground.textOnly Departure.lateStores }, { on := 7, ground := Ground.phase }], guard := none }) (v := .int .i64 (uAt M j)) rfl (by kernel_rfl) (by kernel_rfl) (by kernel_rfl) (fun _ _ _ h => h) (Or.inl ⟨by rfl, ?_⟩) (by assumption) ?_
    · intro w hSw
      go_simp
    try simp only [Act.put, List.setIfInBounds_toArray, List.set_cons_zero, List.set_cons_succ]
    refine wpAnyH_take (i := 9) (oi := { dst := some 4, op := Op.assign (Operand.tmp 47), type := 34, pos := "pack.go:45", after := #[{ on := 6, ground := Ground.data }, { on := 8, ground := Ground.chain }, { on := 0, ground := Ground.phase }, { on := 1, ground := Ground.phase }, { on := 2, ground := Ground.phase }, { on := 3, ground := Ground.phase }, { on := 4, ground := Ground.phase }, { on := 5, ground := Ground.phase }, { on := 6, ground := Ground.phase }, { on := 7, ground := Ground.phase }, { on := 8, ground := Ground.phase }], guard := none }) (v := .int .i64 l2) rfl (by kernel_rfl) (by kernel_rfl) (by kernel_rfl) (fun _ _ _ h => h) (Or.inl ⟨by rfl, ?_⟩) (by assumption) ?_
    · intro w hSw
      go_simp
    try simp only [Act.put, List.setIfInBounds_toArray, List.set_cons_zero, List.set_cons_succ]
    clear hHeld
    refine wpAnyH_done (by kernel_rfl) ?_ _
    go_wp2_with fail
    refine bodyPost_ret (result_ctt rfl _ _ _ _ gr _ 5 _ _ rfl Hc.out Tryd.underlying33 rfl sizePg rfl rfl) rfl ⟨HBc.out, ?_⟩
    rw [HP.out]
    rw [Int.toNat_natCast]
    exact ⟨fun h => absurd h HE.out, fun _ => rfl⟩
  rw [if_neg (by simpa using h2)] at HP
  subst h2
  go_upto_region 10 with fail
  refine wp_region_held_drew (S := fun W => OfS 25 33 gb gr X W) (by kernel_rfl) (HS5.out.up (below_drewN (Below.refl _ _) 1)) (fun hHeld => ?_)
  refine wpAnyH_take (i := 0) (oi := { dst := some 48, op := Op.fieldAddr 25 (Operand.tmp 1) 0, type := 0, pos := "pack.go:47", after := #[], guard := none }) (v := .pointer (some ⟨gb, 0, none⟩)) rfl (by kernel_rfl) (by kernel_rfl) (by kernel_rfl) (fun _ _ _ h => h) (Or.inl ⟨by rfl, ?_⟩) (by assumption) ?_
  · intro w hSw
    go_simp
  try simp only [Act.put, List.setIfInBounds_toArray, List.set_cons_zero, List.set_cons_succ]
  refine wpAnyH_take (i := 1) (oi := { dst := some 49, op := Op.load 3 (Operand.tmp 48), type := 3, pos := "pack.go:47", after := #[{ on := 0, ground := Ground.data }], guard := none }) (v := .int .i64 lo) rfl (by kernel_rfl) (by kernel_rfl) (by kernel_rfl) (fun _ _ _ h => h) (Or.inl ⟨by rfl, ?_⟩) (by assumption) ?_
  · intro w hSw
    have q0 : w.cell? ⟨gb, 0, none⟩ = some (.int .i64 lo) := by rw [hSw.box.cell 0 (by decide), HX.out]; rfl
    go_simp
  try simp only [Act.put, List.setIfInBounds_toArray, List.set_cons_zero, List.set_cons_succ]
  refine wpAnyH_take (i := 2) (oi := { dst := some 50, op := Op.fieldAddr 25 (Operand.tmp 1) 1, type := 0, pos := "pack.go:47", after := #[], guard := none }) (v := .pointer (some ⟨gb, 1, none⟩)) rfl (by kernel_rfl) (by kernel_rfl) (by kernel_rfl) (fun _ _ _ h => h) (Or.inl ⟨by rfl, ?_⟩) (by assumption) ?_
  · intro w hSw
    go_simp
  try simp only [Act.put, List.setIfInBounds_toArray, List.set_cons_zero, List.set_cons_succ]
  refine wpAnyH_take (i := 3) (oi := { dst := some 51, op := Op.load 3 (Operand.tmp 50), type := 3, pos := "pack.go:47", after := #[{ on := 2, ground := Ground.data }], guard := none }) (v := .int .i64 hi) rfl (by kernel_rfl) (by kernel_rfl) (by kernel_rfl) (fun _ _ _ h => h) (Or.inl ⟨by rfl, ?_⟩) (by assumption) ?_
  · intro w hSw
    have q0 : w.cell? ⟨gb, 1, none⟩ = some (.int .i64 hi) := by rw [hSw.box.cell 1 (by decide), HX.out]; rfl
    go_simp
  try simp only [Act.put, List.setIfInBounds_toArray, List.set_cons_zero, List.set_cons_succ]
  refine wpAnyH_take (i := 4) (oi := { dst := some 52, op := Op.fieldAddr 25 (Operand.tmp 1) 2, type := 0, pos := "pack.go:47", after := #[], guard := none }) (v := .pointer (some ⟨gb, 2, none⟩)) rfl (by kernel_rfl) (by kernel_rfl) (by kernel_rfl) (fun _ _ _ h => h) (Or.inl ⟨by rfl, ?_⟩) (by assumption) ?_
  · intro w hSw
    go_simp
  try simp only [Act.put, List.setIfInBounds_toArray, List.set_cons_zero, List.set_cons_succ]
  refine wpAnyH_take (i := 5) (oi := { dst := some 53, op := Op.load 22 (Operand.tmp 52), type := 22, pos := "pack.go:47", after := #[{ on := 4, ground := Ground.data }], guard := none }) (v := .slice Ad nd cd) rfl (by kernel_rfl) (by kernel_rfl) (by kernel_rfl) (fun _ _ _ h => h) (Or.inl ⟨by rfl, ?_⟩) (by assumption) ?_
  · intro w hSw
    have q0 : w.cell? ⟨gb, 2, none⟩ = some (.slice Ad nd cd) := by rw [hSw.box.cell 2 (by decide), HX.out]; rfl
    go_simp
  try simp only [Act.put, List.setIfInBounds_toArray, List.set_cons_zero, List.set_cons_succ]
  refine wpAnyH_take (i := 7) (oi := { dst := some 55, op := Op.fieldAddr 25 (Operand.tmp 1) 3, type := 0, pos := "pack.go:47", after := #[], guard := none }) (v := .pointer (some ⟨gb, 3, none⟩)) rfl (by kernel_rfl) (by kernel_rfl) (by kernel_rfl) (fun _ _ _ h => h) (Or.inl ⟨by rfl, ?_⟩) (by assumption) ?_
  · intro w hSw
    go_simp
  try simp only [Act.put, List.setIfInBounds_toArray, List.set_cons_zero, List.set_cons_succ]
  refine wpAnyH_take (i := 8) (oi := { dst := some 56, op := Op.load 23 (Operand.tmp 55), type := 23, pos := "pack.go:47", after := #[{ on := 7, ground := Ground.data }], guard := none }) (v := .slice At nt ct) rfl (by kernel_rfl) (by kernel_rfl) (by kernel_rfl) (fun _ _ _ h => h) (Or.inl ⟨by rfl, ?_⟩) (by assumption) ?_
  · intro w hSw
    have q0 : w.cell? ⟨gb, 3, none⟩ = some (.slice At nt ct) := by rw [hSw.box.cell 3 (by decide), HX.out]; rfl
    go_simp
  try simp only [Act.put, List.setIfInBounds_toArray, List.set_cons_zero, List.set_cons_succ]
  refine wpAnyH_take (i := 10) (oi := { dst := some 58, op := Op.move (Operand.tmp 5), type := 31, pos := "pack.go:47", after := #[], guard := none }) (v := .slice A5 n5 c5) rfl (by kernel_rfl) (by kernel_rfl) (by kernel_rfl) (fun _ _ _ h => h) (Or.inl ⟨by rfl, ?_⟩) (by assumption) ?_
  · intro w hSw
    go_simp
  try simp only [Act.put, List.setIfInBounds_toArray, List.set_cons_zero, List.set_cons_succ]
  refine wpAnyH_ready (rs := [6]) (by kernel_rfl) (by simp) ?_
  refine AllReadyH.cons (o := { dst := some 54, op := Op.call { callee := Callee.value (Operand.func 37), args := #[Operand.tmp 53], argTypes := #[22] }, type := 22, pos := "pack.go:47", after := #[{ on := 5, ground := Ground.data }], guard := none }) rfl ?_ ?_
  rotate_left
  · exact AllReadyH.nil
  intro K hK
  go_simp
  go_at_call 37
  refine (copied_any w5.drew Ad nd cd data ((HD.out.up HB5.out).up (below_drewN (Below.refl _ _) 1)) HN.out.1).mono ?_
  rintro e wa ⟨va, rfl, hOa, hBa⟩
  have HBa := Lib.hid (show Below w.heap.size w wa from (below_drewN HB5.out 1).trans (hBa.mono HB5.out.size))
  have HBka := Lib.hid (show Below w5.heap.size w5 wa from (below_drewN (Below.refl _ _) 1).trans hBa)
  have HSa := Lib.hid (hHeld.up hBa)
  have HOa := Lib.hid (OwnB_base (base' := w.heap.size) hOa HB5.out.size)
  clear hOa hBa hHeld
  obtain ⟨Aa, na, ca, rfl, -⟩ := own_full HOa.out
  go_simp
  refine hK.out _ _ HSa.out (fun hHeld => ?_)
  clear hK K
  try simp only [Act.put, List.setIfInBounds_toArray, List.set_cons_zero, List.set_cons_succ]
  refine wpAnyH_ready (rs := [9]) (by kernel_rfl) (by simp) ?_
  refine AllReadyH.cons (o := { dst := some 57, op := Op.call { callee := Callee.value (Operand.func 38), args := #[Operand.tmp 56], argTypes := #[23] }, type := 23, pos := "pack.go:47", after := #[{ on := 8, ground := Ground.data }, { on := 6, ground := Ground.chain }], guard := none }) rfl ?_ ?_
  rotate_left
  · exact AllReadyH.nil
  intro K hK
  go_simp
  go_at_call 38
  refine (copiedT_any wa At nt ct tabs (HT.out.up HBa.out) HN.out.2).mono ?_
  rintro e wb ⟨vb, rfl, hOb, hBb⟩
  have HBb := Lib.hid (show Below w.heap.size w wb from HBa.out.trans (hBb.mono HBa.out.size))
  have HBkb := Lib.hid (show Below w5.heap.size w5 wb from HBka.out.trans (hBb.mono HBka.out.size))
  have HSb := Lib.hid (HSa.out.up hBb)
  have HOb := Lib.hid (ownR_base (base' := w.heap.size) hOb HBa.out.size)
  have HOab := Lib.hid (ownB_up HOa.out hBb)
  clear hOb hBb hHeld HOa
  obtain ⟨Ab, nb, cb, rfl, -⟩ := HOb.out.form
  go_simp
  refine hK.out _ _ HSb.out (fun hHeld => ?_)
  clear hK K
  try simp only [Act.put, List.setIfInBounds_toArray, List.set_cons_zero, List.set_cons_succ]
  refine wpAnyH_take (i := 11) (oi := { dst := some 59, op := Op.build 33 #[(0, Operand.tmp 49), (1, Operand.tmp 51), (2, Operand.tmp 54), (3, Operand.tmp 57), (4, Operand.tmp 58)], type := 33, pos := "pack.go:47", after := #[{ on := 1, ground := Ground.data }, { on := 3, ground := Ground.data }, { on := 6, ground := Ground.data }, { on := 9, ground := Ground.data }, { on := 10, ground := Ground.data }], guard := none }) (v := .agg #[.int .i64 lo, .int .i64 hi, .slice Aa na ca, .slice Ab nb cb, .slice A5 n5 c5]) rfl (by kernel_rfl) (by kernel_rfl) (by kernel_rfl) (fun _ _ _ h => h) (Or.inl ⟨by rfl, ?_⟩) (by assumption) ?_
  · intro w hSw
    go_simp
  try simp only [Act.put, List.setIfInBounds_toArray, List.set_cons_zero, List.set_cons_succ]
  have HO5b := Lib.hid (HO5.out.up HBkb.out)
  clear hHeld
  refine wpAnyH_ready (rs := [12]) (by kernel_rfl) (by simp) ?_
  refine AllReadyH.cons (o := { dst := none, op := Op.store 33 (Operand.tmp 2) (Operand.tmp 59), type := 0, pos := "pack.go:47", after := #[{ on := 11, ground := Ground.data }, { on := 9, ground := Ground.chain }, { on := 0, ground := Ground.phase }, { on := 1, ground := Ground.phase }, { on := 2, ground := Ground.phase }, { on := 3, ground := Ground.phase }, { on := 4, ground := Ground.phase }, { on := 5, ground := Ground.phase }, { on := 6, ground := Ground.phase }, { on := 7, ground := Ground.phase }, { on := 8, ground := Ground.phase }, { on := 9, ground := Ground.phase }, { on := 10, ground := Ground.phase }, { on := 11, ground := Ground.phase }], guard := none }) rfl ?_ ?_
  rotate_left
  · exact AllReadyH.nil
  intro K hK
  obtain ⟨fo, hfo⟩ := HSb.out.res
  refine step_store_seg (by rfl) 33 _ _ rfl gr 0 33 5 5 fo (pkF lo hi (.slice Aa na ca) (.slice Ab nb cb) (.slice A5 n5 c5)) rfl rfl hfo (by omega) sizePg (pkF_one rfl rfl rfl) ?_
  intro wc hc hTc hsc
  have Hc := Lib.hid (show FB wc gr 33 5 (pkF lo hi (.slice Aa na ca) (.slice Ab nb cb) (.slice A5 n5 c5)) from hc.congr fun q hq => by unfold updR; rw [if_pos (by omega), Nat.sub_zero])
  have HSc := Lib.hid (show OfS 25 33 gb gr X wc from ⟨HSb.out.box.touch hTc HSb.out.ne, ⟨_, Hc.out⟩, HSb.out.ne⟩)
  have HOac := Lib.hid (ownB_touch HOab.out hTc hfo (by decide))
  have HObc := Lib.hid (ownT_touch HOb.out hTc hfo (by decide))
  have HO5c := Lib.hid (own_ne HO5b.out hTc hfo (by decide))
  have HBc := Lib.hid (show Below w.heap.size w wc from HBb.out.trans (hTc.below HGR.out.1 HBb.out.size))
  clear hc hTc hsc hfo
  refine hK.out _ _ HSc.out (fun hHeld => ?_)
  clear hK K
  try simp only [Act.put, List.setIfInBounds_toArray, List.set_cons_zero, List.set_cons_succ]
  refine wpAnyH_take (i := 13) (oi := { dst := some 3, op := Op.assign (Operand.const (Value.int IntKind.i64 0)), type := 3, pos := "pack.go:47", after := #[{ on := 12, ground := Ground.chain }, { on := 0, ground := Ground.phase }, { on := 1, ground := Ground.phase }, { on := 2, ground := Ground.phase }, { on := 3, ground := Ground.phase }, { on := 4, ground := Ground.phase }, { on := 5, ground := Ground.phase }, { on := 6, ground := Ground.phase }, { on := 7, ground := Ground.phase }, { on := 8, ground := Ground.phase }, { on := 9, ground := Ground.phase }, { on := 10, ground := Ground.phase }, { on := 11, ground := Ground.phase }, { on := 12, ground := Ground.phase }], guard := none }) (v := .int .i64 0) rfl (by kernel_rfl) (by kernel_rfl) (by kernel_rfl) (fun _ _ _ h => h) (Or.inl ⟨by rfl, ?_⟩) (by assumption) ?_
  · intro w hSw
    go_simp
  try simp only [Act.put, List.setIfInBounds_toArray, List.set_cons_zero, List.set_cons_succ]
  refine wpAnyH_take (i := 14) (oi := { dst := some 4, op := Op.assign (Operand.const (Value.int IntKind.i64 0)), type := 34, pos := "pack.go:47", after := #[{ on := 13, ground := Ground.chain }, { on := 0, ground := Ground.phase }, { on := 1, ground := Ground.phase }, { on := 2, ground := Ground.phase }, { on := 3, ground := Ground.phase }, { on := 4, ground := Ground.phase }, { on := 5, ground := Ground.phase }, { on := 6, ground := Ground.phase }, { on := 7, ground := Ground.phase }, { on := 8, ground := Ground.phase }, { on := 9, ground := Ground.phase }, { on := 10, ground := Ground.phase }, { on := 11, ground := Ground.phase }, { on := 12, ground := Ground.phase }, { on := 13, ground := Ground.phase }], guard := none }) (v := .int .i64 0) rfl (by kernel_rfl) (by kernel_rfl) (by kernel_rfl) (fun _ _ _ h => h) (Or.inl ⟨by rfl, ?_⟩) (by assumption) ?_
  · intro w hSw
    go_simp
  try simp only [Act.put, List.setIfInBounds_toArray, List.set_cons_zero, List.set_cons_succ]
  clear hHeld
  refine wpAnyH_done (by kernel_rfl) ?_ _
  go_wp2_with fail
  refine bodyPost_ret (result_ctt rfl _ _ _ _ gr _ 5 _ _ rfl Hc.out Tryd.underlying33 rfl sizePg rfl rfl) rfl ⟨HBc.out, ?_⟩
  rw [HP.out]
  exact ⟨fun _ => ⟨_, _, _, rfl, HOac.out, HObc.out, HO5c.out⟩, fun h => absurd rfl h⟩
end Go.Proofs.YtlodoinmippebaaDoor.Pak
