/- The document's own answer of package pack: beyond, Check, Of, Program. Laid by wip/tools/mkpkqa.py. -/
import Derived.Test.YtlodoinmippebaaDoorPkQb
import Derived.Test.YtlodoinmippebaaDoorPkSz
import Derived.Test.YtlodoinmippebaaDoorRfOP
import Derived.Test.YtlodoinmippebaaDoorRfA
import Derived.Test.YtlodoinmippebaaDoorRfDD
namespace Go.Proofs.YtlodoinmippebaaDoor.Pak
open Go.ChangeShapes Go.WideShapes Go.ChangeAt Go.RowKit
open Cod
set_option linter.unusedVariables false
set_option linter.unusedSimpArgs false
set_option maxRecDepth 100000
set_option maxHeartbeats 2000000 in
theorem rbeyond_any (w : World) (A : Option Addr) (n c : Nat) (L : List Ins) (d : Int) (hL : L.length = n) (hn : n ≤ 1152921504606846976) (h : CodeAt w A L) :
    Calls Tryd.prog 41 #[.slice A n c, .int .i64 d] w (RetB w (.int .i64 (idxF (beyondI d) 0 L))) := by
  have HL := Lib.hid hL
  have HA := Lib.hid h
  clear hL h
  go_enter Tryd.func41, Tryd.ntmps41
  go_wp2_with fail
  go_loopw [5] (fun a5 wr => ∃ (j : Nat), a5 = .int .i64 j ∧ j ≤ n ∧ Hid (idxF (beyondI d) j (L.drop j) = idxF (beyondI d) 0 L) ∧ Below w.heap.size w wr) (fun a5 _ => (n - (intOf a5)).toNat)
  case atStart => exact ⟨0, rfl, Nat.zero_le _, Lib.hid rfl, Below.refl _ _⟩
  case round =>
    obtain ⟨j, rfl, hj, HE, hB⟩ := hrel
    have HB := Lib.hid hB
    clear hB
    by_cases hlt : j < n
    · have hlt' : (j : Int) < n := by omega
      obtain ⟨i, hi, hdr⟩ := drop_cons (l := L) (j := j) (by have := HL.out; omega)
      rw [hdr] at HE
      obtain ⟨b, off, rfl, hbl, hc⟩ := HA.out (by have := HL.out; omega)
      have hx := (hc j i hi).below HB.out hbl
      obtain ⟨op, nar, reg, size, dst, src, io, imm⟩ := i
      obtain ⟨x0, -, -, -, -, -, -, x7⟩ := hx
      simp only at x0 x7
      have HE' := HE.out
      change (if beyondI d ⟨op, nar, reg, size, dst, src, io, imm⟩ = true then (j : Int) else idxF (beyondI d) (j + 1) (L.drop (j + 1))) = idxF (beyondI d) 0 L at HE'
      have hbe : beyondI d ⟨op, nar, reg, size, dst, src, io, imm⟩ = (decide (op = 21) && decide (d < imm)) := rfl
      rw [hbe] at HE'
      clear hdr hc hi HE hbe
      by_cases h1 : op = 21
      · rw [decide_eq_true h1] at HE'
        subst h1
        by_cases h2 : d < imm
        · rw [decide_eq_true h2, if_pos (show (true && true) = true from rfl)] at HE'
          have HE2 := Lib.hid HE'
          have t2 : decide (imm > d) = true := decide_eq_true h2
          clear HE'
          go_wp2_with fail
          go_ret
          exact ⟨ret_i64 HE2.out, HB.out⟩
        · rw [decide_eq_false h2, if_neg (by simp)] at HE'
          have HE2 := Lib.hid HE'
          have t2 : decide (imm > d) = false := decide_eq_false h2
          clear HE'
          go_wp2_with fail
          go_roundw
          case rel => exact ⟨j + 1, by go_num, by omega, HE2, HB.out⟩
          case measure => simp [intOf]; omega
      · rw [decide_eq_false h1, if_neg (by simp)] at HE'
        have t1 : (op == 21) = false := by rw [beq_eq_false_iff_ne]; exact h1
        have HE2 := Lib.hid HE'
        clear HE' h1
        go_wp2_with fail
        go_roundw
        case rel => exact ⟨j + 1, by go_num, by omega, HE2, HB.out⟩
        case measure => simp [intOf]; omega
    · obtain rfl : j = n := by omega
      have HE2 := Lib.hid (show -1 = idxF (beyondI d) 0 L by rw [← HE.out, List.drop_of_length_le (by have := HL.out; omega)]; rfl)
      have t1 : decide (j < j) = false := by simp
      clear hlt HE
      go_wp2_with fail
      go_ret
      exact ⟨ret_i64 HE2.out, HB.out⟩
theorem own_away {w w' : World} {base g size n : Nat} {e t : TypeId} {v : Value} {xs : List Value} {cs : Array Value} (h : w.ownsRow base e size v n xs) (ht : Touch g w w') (hb : Blk w g t cs) (h1 : e ≠ t) : w'.ownsRow base e size v n xs :=
  own_keep h fun b hb2 hlt => ht.block b hlt fun eb => by
    subst eb
    rcases h.2 with ⟨hv, -⟩ | ⟨g2, cap, cur, hv, -, hh, -⟩
    · rw [hv] at hb2; cases hb2
    · rw [hv] at hb2
      injection hb2 with hb2
      subst hb2
      have hq : some (Obj.cells cur e (0, 0)) = some (Obj.cells cs t (0, 0)) := hh.symm.trans hb
      injection hq with hq
      injection hq with _ hq
      exact h1 hq
theorem lost_parts {L : List Ins} {d : Int} (h : L ≠ []) : lostL L d = if 0 ≤ idxF (beyondI d) 0 L then (idxF (beyondI d) 0 L, 123) else (0, 0) := by unfold lostL; rw [if_neg h]
theorem ints_cell {w : World} {A : Option Addr} {c m : Nat} {L : List Int} {base : Nat} (h : Rf.OwnN w base (.slice A m c) L) {j : Nat} (hj : j < L.length) : ∃ b off, A = some ⟨b, off, none⟩ ∧ w.cell? ⟨b, off + j, none⟩ = some (.int .i64 (L[j]?.getD 0)) := by
  obtain ⟨A', c', e, ha⟩ := h.intsAt
  injection e with e1 e2 e3
  subst e1
  obtain ⟨b, off, e, -, hc⟩ := ha (by omega)
  exact ⟨b, off, e, hc j hj⟩
theorem units_get {M : List Ins} {j : Nat} (hj : j < M.length) : (unitsL M)[j]?.getD 0 = uAt M j := by
  unfold unitsL
  simp [List.getElem?_map, List.getElem?_range (show j < M.length + 1 by omega)]
theorem append_tabs {ops : Array Oper} {rest : List Oper} {o : Oper} {a : Act} {Q : Exit → Act → World → Prop} (w : World) (hgd : Region.wanted o (yielded ops a.tmps) = true) (x y : Operand)
    (ho : o.op = .call { callee := .builtin .append, args := #[x, y], argTypes := #[23, 23] }) (hx : a.eval x = .slice none 0 0) (A : Option Addr) (n c : Nat) (l : List (Int × Int)) (hy : a.eval y = .slice A n c) (h : Tb w A n c l) (hlen : n ≤ 8796093022208)
    (hK : ∀ v' w', OwnR 69 2 tabF w' w.heap.size v' l → Below w.heap.size w w' → wpList Tryd.prog ops Q rest (a.put o.dst v') w') : wpList Tryd.prog ops Q (o :: rest) a w := by
  have hown : w.ownsRow w.heap.size 69 2 (.slice none 0 0) 0 [] := World.ownsRow_nil w w.heap.size _ 2
  have hr := tb_reads h
  have hl := h.len.out
  obtain ⟨i0, hi0, hz0, hz1, hz2, hz3⟩ : ∃ i z, (Tryd.prog.info? 69) = some i ∧ i.zero = some z ∧ z.cells.size = 2 ∧ i.size = 2 ∧ i.bytes = 16 := by
    cases hq : Tryd.prog.info? 69 with
    | none => have := infoT; rw [hq] at this; cases this
    | some i =>
      have := infoT
      rw [hq] at this
      simp only [Option.map_some, Option.some.injEq, Prod.mk.injEq] at this
      obtain ⟨h1, h2, h3⟩ := this
      cases hz : i.zero with
      | none => rw [hz] at h1; cases h1
      | some z =>
        rw [hz] at h1
        have hzc : z.cells = arr 2 (tabF (0, 0)) := by simpa using h1
        exact ⟨i, z, rfl, hz, by rw [hzc, arr_size], h2, h3⟩
  obtain ⟨q3, q4⟩ := hz3
  refine wpList_append_wide w hgd x y 23 ho w.heap.size 69 i0 hi0 2 16 Tryd.underlying23 hz0 hz1 q3 q4 hz2 (by decide) (.slice none 0 0) 0 [] hx hown w.heap.size A n c (flat 2 tabF l) hy hr (fun u hu => tabF_two hu) (by unfold maxLen; omega) (by omega) (Nat.le_refl _) ?_
  intro v' w' hown' hg'
  refine hK v' w' ?_ ((Below.refl _ _).grown hg' (Nat.le_refl _) (fun k hk => by simp [Value.ownBlock] at hk))
  unfold OwnR
  rw [hl]
  rw [Nat.zero_add, List.nil_append] at hown'
  exact hown'
structure UnR (gb gr : Nat) (X : Nat → Value) (v : Value) (U : List Int) (base : Nat) (W : World) : Prop where
  s : OfS 25 33 gb gr X W
  u : Rf.OwnN W base v U
set_option maxHeartbeats 8000000 in
theorem rprogram_any (w : World) (k : Pk) (vd vt vc : Value) (hp : PkAt w vd vt vc k) (hs : Small k) :
    Calls Tryd.prog 12 #[.agg (arr 5 (pkF k.lo k.hi vd vt vc))] w fun e w' => Below w.heap.size w w' ∧ ProgRes w w' (progG k) e := by
  obtain ⟨⟨Ad, nd, cd, rfl, hD⟩, ⟨At, nt, ct, rfl, hT⟩, Ac, nc, cc, rfl, hC⟩ := hp
  have HD := Lib.hid hD
  have HT := Lib.hid hT
  have HN := Lib.hid (show nd ≤ 140737488355328 ∧ nt ≤ 8796093022208 from ⟨by have := hD.len.out; have := hs.data; omega, by have := hT.len.out; have := hs.tabs; omega⟩)
  obtain ⟨pr, hpr⟩ : ∃ pr, pr = progG k := ⟨_, rfl⟩
  rw [← hpr]
  have HP := Lib.hid hpr
  unfold progG at HP
  rw [hD.len.out] at HP
  have HW := Lib.hid (fun (W : World) (hW : Below w.heap.size w W) => rsizes_any W k.lo k.hi Ad nd cd At nt ct k.tabs hT.len.out (by have := hT.len.out; have := hs.tabs; omega) (hT.up hW).row)
  have HDC := Lib.hid (fun (W : World) (hW : Below w.heap.size w W) => Rf.refDecode_any W Ac nc cc k.code (sl_left (hC.up hW) hs.bc) (by have := hC.len.out; have := hs.code; omega))
  unfold Go.Proofs.YtlodoinmippebaaDoor.Decoded at HDC
  have HFO := Lib.hid (show (D k.code 0 0).1 = 0 → (D k.code 0 0).2.2.length ≤ 4096 ∧ (D k.code 0 0).2.1 = 0 from fun h => ⟨(D_forth (fun x hx => hs.bc x hx) h).2.1, (D_forth (fun x hx => hs.bc x hx) h).2.2.2⟩)
  obtain ⟨lo, hi, data, tabs, code⟩ := k
  simp only at HP HW HDC HD HT HFO ⊢
  obtain ⟨ez, hez⟩ : ∃ z, z = sizesE lo hi tabs nd := ⟨_, rfl⟩
  rw [← hez] at HW HP
  obtain ⟨d, hd⟩ : ∃ d, d = D code 0 0 := ⟨_, rfl⟩
  rw [← hd] at HP HDC HFO
  obtain ⟨X, hX⟩ : ∃ X, X = pkF lo hi (.slice Ad nd cd) (.slice At nt ct) (.slice Ac nc cc) := ⟨_, rfl⟩
  rw [← hX]
  have HX := Lib.hid hX
  obtain ⟨der, dat, M⟩ := d
  simp only at HP HDC HFO
  clear hX hD hT hC hs hpr hez hd
  go_enter Tryd.func12, Tryd.ntmps12
  go_upto_region 1 with (first
    | (refine wpList_box_seg rfl _ (.tmp 0) rfl 5 X rfl ?_; intro w1 h1 hB1 hs1; clear hs1)
    | (refine wpList_alloc_seg rfl 33 rfl 5 zeroPkF zeroPg ?_; intro w2 h2 hB2 hs2; clear hs2))
  obtain ⟨gb, hgb⟩ : ∃ gb, gb = w.heap.size := ⟨_, rfl⟩
  obtain ⟨gr, hgr⟩ : ∃ gr, gr = w1.heap.size := ⟨_, rfl⟩
  rw [← hgb] at h1 ⊢
  rw [← hgr] at h2 ⊢
  have HB2 := Lib.hid (show Below w.heap.size w w2 from hB1.trans (hB2.mono hB1.size))
  have HS := Lib.hid (show OfS 25 33 gb gr X w2 from ⟨h1.up hB2, ⟨_, h2⟩, by have := h1.lt; omega⟩)
  have HGR := Lib.hid (show w.heap.size ≤ gr ∧ gr < w2.heap.size from ⟨by have := hB1.size; omega, h2.lt⟩)
  have HZ2 := Lib.hid (show FB w2 gr 33 5 zeroPkF from h2)
  clear h1 hB1 h2 hB2 hgb hgr
  have HCA := Lib.hid (show ∀ W, Below w2.heap.size w2 W → W.cell? ⟨gb, 0, none⟩ = some (.int .i64 lo) ∧ W.cell? ⟨gb, 1, none⟩ = some (.int .i64 hi) ∧ W.cell? ⟨gb, 2, none⟩ = some (.slice Ad nd cd) ∧ W.cell? ⟨gb, 3, none⟩ = some (.slice At nt ct) ∧ W.cell? ⟨gb, 4, none⟩ = some (.slice Ac nc cc) from fun W hW => by
    have h3 := HS.out.box.up hW
    rw [HX.out] at h3
    exact ⟨h3.cell 0 (by decide), h3.cell 1 (by decide), h3.cell 2 (by decide), h3.cell 3 (by decide), h3.cell 4 (by decide)⟩)
  obtain ⟨x0, x1, x2, x3, x4⟩ := HCA.out w2 (Below.refl _ _)
  go_upto_region 2 with (go_at_call 39; refine (HW.out w2 HB2.out).mono ?_; rintro e w3 ⟨rfl, hB3⟩)
  have HB32 := Lib.hid hB3
  have HB3 := Lib.hid (HB2.out.trans (hB3.mono HB2.out.size))
  clear hB3 HW x0 x1 x2 x3 x4
  by_cases h0 : ez = 0
  case neg =>
    have t0 : (ez != 0) = true := by rw [bne_iff_ne]; exact h0
    rw [if_pos h0] at HP
    have HE := Lib.hid h0
    clear h0
    have hz := HZ2.out.up HB32.out
    go_wp2_with (refine wpList_store_all rfl 33 _ _ rfl gr 33 5 _ zeroPkF rfl rfl hz sizePg (pkF_one rfl rfl rfl) ?_; intro w9 h9 hT9 hs9)
    refine bodyPost_ret (result_ctt rfl _ _ _ _ gr _ 5 _ _ rfl h9 Tryd.underlying33 rfl sizePg rfl rfl) rfl ⟨HB3.out.trans (hT9.below HGR.out.1 HB3.out.size), ?_⟩
    rw [HP.out]; exact ⟨fun h => absurd h HE.out, fun _ => rfl⟩
  rw [if_neg (by simpa using h0)] at HP
  subst h0
  obtain ⟨x0, x1, x2, x3, x4⟩ := HCA.out w3 HB32.out
  go_upto_region 5 with (go_at_call 40; refine (HDC.out w3 HB3.out).mono ?_; rintro e w4 ⟨v4, rfl, hO4, hB4⟩; obtain ⟨A5, n5, c5, rfl, hm5, -, -, -⟩ := OwnR.form (ownI_rows hO4))
  have HM5 := Lib.hid hm5.out
  have HB42 := Lib.hid (HB32.out.trans (hB4.mono HB32.out.size))
  have HO4 := Lib.hid (ownR_base (base' := w.heap.size) (ownI_rows hO4) HB3.out.size)
  have HB4 := Lib.hid (HB3.out.trans (hB4.mono HB3.out.size))
  clear hB4 hO4 hm5 HDC x0 x1 x2 x3 x4 HB3 HB32
  by_cases h1 : der = 0
  case neg =>
    have t1 : (der != 0) = true := by rw [bne_iff_ne]; exact h1
    rw [if_pos h1] at HP
    have HE := Lib.hid h1
    clear h1
    have hz := HZ2.out.up HB42.out
    go_wp2_with (refine wpList_store_all rfl 33 _ _ rfl gr 33 5 _ zeroPkF rfl rfl hz sizePg (pkF_one rfl rfl rfl) ?_; intro w9 h9 hT9 hs9)
    refine bodyPost_ret (result_ctt rfl _ _ _ _ gr _ 5 _ _ rfl h9 Tryd.underlying33 rfl sizePg rfl rfl) rfl ⟨HB4.out.trans (hT9.below HGR.out.1 HB4.out.size), ?_⟩
    rw [HP.out]; exact ⟨fun h => absurd h HE.out, fun _ => rfl⟩
  rw [if_neg (by simpa using h1)] at HP
  subst h1
  obtain ⟨hM4, hda⟩ := HFO.out rfl
  have HM4 := Lib.hid hM4
  clear hM4 hda
  by_cases h5 : n5 = 0
  · subst h5
    have HME := Lib.hid (show M = [] from List.eq_nil_of_length_eq_zero HM5.out.symm)
    unfold lostL at HP
    rw [if_pos HME.out, if_pos (by decide)] at HP
    have hz := HZ2.out.up HB42.out
    go_wp2_with (refine wpList_store_all rfl 33 _ _ rfl gr 33 5 _ zeroPkF rfl rfl hz sizePg (pkF_one rfl rfl rfl) ?_; intro w9 h9 hT9 hs9)
    refine bodyPost_ret (result_ctt rfl _ _ _ _ gr _ 5 _ _ rfl h9 Tryd.underlying33 rfl sizePg rfl rfl) rfl ⟨HB4.out.trans (hT9.below HGR.out.1 HB4.out.size), ?_⟩
    rw [HP.out]; exact ⟨fun h => absurd (show (26 : Int) = 0 from h) (by decide), fun _ => by rw [HME.out]; rfl⟩
  have HME := Lib.hid (show M ≠ [] from fun e => h5 (by rw [HM5.out, e]; rfl))
  have t5 : ((n5 : Int) == 0) = false := by rw [beq_eq_false_iff_ne]; omega
  clear h5
  rw [lost_parts HME.out] at HP
  have HBE := Lib.hid (rbeyond_any w4 A5 n5 c5 M (nd : Int) HM5.out.symm (by have := HM5.out; have := HM4.out; omega) (rows_code (OwnR.form_row HO4.out)))
  have hspec := idxF_spec (beyondI (nd : Int)) M 0
  obtain ⟨z, hz⟩ : ∃ z, z = idxF (beyondI (nd : Int)) 0 M := ⟨_, rfl⟩
  rw [← hz] at HBE HP
  rw [← hz] at hspec
  clear hz
  obtain ⟨x0, x1, x2, x3, x4⟩ := HCA.out w4 HB42.out
  go_upto_region 10 with (go_at_call 41; refine HBE.out.mono ?_; rintro e w5 ⟨rfl, hB5⟩)
  have HB52 := Lib.hid (HB42.out.trans (hB5.mono HB42.out.size))
  have HB5 := Lib.hid (HB4.out.trans (hB5.mono HB4.out.size))
  have HS5 := Lib.hid (HS.out.up HB52.out)
  have HO5 := Lib.hid (HO4.out.up hB5)
  clear hB5 HBE x0 x1 x2 x3 x4 HB4 HB42 HO4
  by_cases h6 : 0 ≤ z
  · have t6 : decide (0 ≤ z) = true := decide_eq_true h6
    rw [if_pos h6, if_pos (by simp)] at HP
    obtain ⟨j, rfl⟩ : ∃ j : Nat, z = j := ⟨z.toNat, by omega⟩
    obtain ⟨qj, hqj, hqM, -⟩ := hspec j rfl
    have HJ := Lib.hid (show j < M.length by omega)
    clear hspec h6 hqj hqM
    go_upto_region 11 with fail
    have HUN := Lib.hid (Rf.refUnits_any w5.drew A5 n5 c5 M HM5.out.symm (by have := HM5.out; have := HM4.out; omega) (rows_code (OwnR.form_row (HO5.out.up (below_drewN (Below.refl _ _) 1)))))
    unfold Rf.Owned at HUN
    have HJ2 := Lib.hid (show (j : Int) < ((n5 + 1 : Nat) : Int) ∧ (0 : Int) ≤ j from ⟨by have := HJ.out; have := HM5.out; omega, by omega⟩)
    refine wp_region_held_drew (S := fun W => OfS 25 33 gb gr X W) (by kernel_rfl) (HS5.out.up (below_drewN (Below.refl _ _) 1)) (fun hHeld => ?_)
    refine wpAnyH_take (i := 0) (oi := { dst := some 47, op := Op.build 33 #[], type := 33, pos := "ref.go:208", after := #[], guard := none }) (v := .agg #[.int .i64 0, .int .i64 0, .slice none 0 0, .slice none 0 0, .slice none 0 0]) rfl (by kernel_rfl) (by kernel_rfl) (by kernel_rfl) (fun _ _ _ h => h) (Or.inl ⟨by rfl, ?_⟩) (by assumption) ?_
    · intro w hSw
      go_simp
    try simp only [Act.put, List.setIfInBounds_toArray, List.set_cons_zero, List.set_cons_succ]
    refine wpAnyH_take (i := 1) (oi := { dst := some 48, op := Op.move (Operand.tmp 6), type := 31, pos := "ref.go:208", after := #[], guard := none }) (v := .slice A5 n5 c5) rfl (by kernel_rfl) (by kernel_rfl) (by kernel_rfl) (fun _ _ _ h => h) (Or.inl ⟨by rfl, ?_⟩) (by assumption) ?_
    · intro w hSw
      go_simp
    try simp only [Act.put, List.setIfInBounds_toArray, List.set_cons_zero, List.set_cons_succ]
    refine wpAnyH_take (i := 3) (oi := { dst := some 50, op := Op.move (Operand.tmp 9), type := 3, pos := "ref.go:208", after := #[{ on := 6, ground := Ground.gcOnly Departure.lateStores }], guard := none }) (v := .int .i64 j) rfl (by kernel_rfl) (by kernel_rfl) (by kernel_rfl) (fun _ _ _ h => h) (Or.inl ⟨by rfl, ?_⟩) (by assumption) ?_
    · intro w hSw
      go_simp
    try simp only [Act.put, List.setIfInBounds_toArray, List.set_cons_zero, List.set_cons_succ]
    refine wpAnyH_ready (rs := [2]) (by kernel_rfl) (by simp) ?_
    refine AllReadyH.cons (o := { dst := some 49, op := Op.call { callee := Callee.value (Operand.func 42), args := #[Operand.tmp 48], argTypes := #[31] }, type := 49, pos := "ref.go:208", after := #[{ on := 1, ground := Ground.data }], guard := none }) rfl ?_ ?_
    rotate_left
    · exact AllReadyH.nil
    intro K hK
    go_simp
    go_at_call 42
    refine HUN.out.mono ?_
    rintro e wa ⟨vu, rfl, hU, hBa⟩
    have HBa := Lib.hid (show Below w.heap.size w wa from (below_drewN HB5.out 1).trans (hBa.mono HB5.out.size))
    have HSa := Lib.hid (hHeld.up hBa)
    obtain ⟨Au, cu, hvu, -⟩ := hU.intsAt
    have hul : (unitsL M).length = M.length + 1 := by unfold unitsL; simp
    rw [hul] at hvu
    obtain ⟨mu, hmu⟩ : ∃ m, m = M.length + 1 := ⟨_, rfl⟩
    rw [← hmu] at hvu
    subst hvu
    have HMU := Lib.hid (show mu = n5 + 1 by rw [hmu, HM5.out])
    have HUa := Lib.hid hU
    clear hBa hHeld hU hul hmu
    go_simp
    refine hK.out _ _ HSa.out (fun hHeld => ?_)
    clear hK K
    try simp only [Act.put, List.setIfInBounds_toArray, List.set_cons_zero, List.set_cons_succ]
    clear hHeld
    obtain ⟨bu, ou, rfl, hcu⟩ := ints_cell HUa.out (j := j) (by unfold unitsL; simp; have := HJ.out; omega)
    refine wpAnyH_stronger (S' := fun W => UnR gb gr X (.slice (some ⟨bu, ou, none⟩) mu cu) (unitsL M) w5.drew.heap.size W) (fun _ h => h.s) _ _ _ _ ?_
    have hHeld : UnR gb gr X (.slice (some ⟨bu, ou, none⟩) mu cu) (unitsL M) w5.drew.heap.size wa := ⟨HSa.out, HUa.out⟩
    have HUJ := Lib.hid (show (unitsL M)[j]?.getD 0 = uAt M j from units_get HJ.out)
    refine wpAnyH_take (i := 4) (oi := { dst := some 51, op := Op.indexAddr 49 (Operand.tmp 49) (Operand.tmp 50), type := 0, pos := "ref.go:208", after := #[{ on := 2, ground := Ground.data }, { on := 3, ground := Ground.data }, { on := 6, ground := Ground.gcOnly Departure.lateStores }], guard := none }) (v := .pointer (some ⟨bu, ou + j, none⟩)) rfl (by kernel_rfl) (by kernel_rfl) (by kernel_rfl) (fun _ _ _ h => h) (Or.inl ⟨by rfl, ?_⟩) (by assumption) ?_
    · intro w hSw
      have q1 : (j : Int) < (mu : Int) := by have h1 := HJ2.out.1; have h2 := HMU.out; omega
      have q2 := HJ2.out.2
      go_simp
      all_goals (try (intro h; exfalso; omega))
    try simp only [Act.put, List.setIfInBounds_toArray, List.set_cons_zero, List.set_cons_succ]
    refine wpAnyH_take (i := 5) (oi := { dst := some 52, op := Op.load 3 (Operand.tmp 51), type := 3, pos := "ref.go:208", after := #[{ on := 4, ground := Ground.data }, { on := 6, ground := Ground.gcOnly Departure.lateStores }], guard := none }) (v := .int .i64 (uAt M j)) rfl (by kernel_rfl) (by kernel_rfl) (by kernel_rfl) (fun _ _ _ h => h) (Or.inl ⟨by rfl, ?_⟩) (by assumption) ?_
    · intro w hSw
      have q1 : w.cell? ⟨bu, ou + j, none⟩ = some (.int .i64 (uAt M j)) := by
        obtain ⟨b2, o2, e2, h2⟩ := ints_cell hSw.u (j := j) (by unfold unitsL; simp; have := HJ.out; omega)
        injection e2 with e2
        injection e2 with e3 e4
        subst e3 e4
        rw [h2, HUJ.out]
      go_simp
    try simp only [Act.put, List.setIfInBounds_toArray, List.set_cons_zero, List.set_cons_succ]
    refine wpAnyH_ready (rs := [6]) (by kernel_rfl) (by simp) ?_
    refine AllReadyH.cons (o := { dst := none, op := Op.store 33 (Operand.tmp 2) (Operand.tmp 47), type := 0, pos := "ref.go:208", after := #[{ on := 0, ground := Ground.data }, { on := 2, ground := Ground.chain }, { on := 0, ground := Ground.phase }, { on := 1, ground := Ground.textOnly Departure.lateStores }, { on := 2, ground := Ground.textOnly Departure.lateStoresUnsure }, { on := 3, ground := Ground.textOnly Departure.lateStores }, { on := 4, ground := Ground.textOnly Departure.lateStores }, { on := 5, ground := Ground.textOnly Departure.lateStores }], guard := none }) rfl ?_ ?_
    rotate_left
    · exact AllReadyH.nil
    intro K hK
    obtain ⟨fo, hfo⟩ := HSa.out.res
    refine step_store_seg (by rfl) 33 _ _ rfl gr 0 33 5 5 fo zeroPkF rfl rfl hfo (by omega) sizePg (pkF_one rfl rfl rfl) ?_
    intro wc hc hTc hsc
    have Hc := Lib.hid (show FB wc gr 33 5 zeroPkF from hc.congr fun q hq => by unfold updR; rw [if_pos (by omega), Nat.sub_zero])
    have HSc := Lib.hid (show UnR gb gr X (.slice (some ⟨bu, ou, none⟩) mu cu) (unitsL M) w5.drew.heap.size wc from ⟨⟨HSa.out.box.touch hTc HSa.out.ne, ⟨_, Hc.out⟩, HSa.out.ne⟩, own_away HUa.out hTc hfo (by decide)⟩)
    have HBc := Lib.hid (show Below w.heap.size w wc from HBa.out.trans (hTc.below HGR.out.1 HBa.out.size))
    clear hc hTc hsc hfo
    refine hK.out _ _ HSc.out (fun hHeld => ?_)
    clear hK K
    try simp only [Act.put, List.setIfInBounds_toArray, List.set_cons_zero, List.set_cons_succ]
    refine wpAnyH_take (i := 7) (oi := { dst := some 3, op := Op.assign (Operand.tmp 52), type := 3, pos := "ref.go:208", after := #[{ on := 5, ground := Ground.data }, { on := 6, ground := Ground.chain }, { on := 0, ground := Ground.phase }, { on := 1, ground := Ground.phase }, { on := 2, ground := Ground.phase }, { on := 3, ground := Ground.phase }, { on := 4, ground := Ground.phase }, { on := 5, ground := Ground.phase }, { on := 6, ground := Ground.phase }], guard := none }) (v := .int .i64 (uAt M j)) rfl (by kernel_rfl) (by kernel_rfl) (by kernel_rfl) (fun _ _ _ h => h) (Or.inl ⟨by rfl, ?_⟩) (by assumption) ?_
    · intro w hSw
      go_simp
    try simp only [Act.put, List.setIfInBounds_toArray, List.set_cons_zero, List.set_cons_succ]
    refine wpAnyH_take (i := 8) (oi := { dst := some 4, op := Op.assign (Operand.const (Value.int IntKind.i64 123)), type := 3, pos := "ref.go:208", after := #[{ on := 7, ground := Ground.chain }, { on := 0, ground := Ground.phase }, { on := 1, ground := Ground.phase }, { on := 2, ground := Ground.phase }, { on := 3, ground := Ground.phase }, { on := 4, ground := Ground.phase }, { on := 5, ground := Ground.phase }, { on := 6, ground := Ground.phase }, { on := 7, ground := Ground.phase }], guard := none }) (v := .int .i64 123) rfl (by kernel_rfl) (by kernel_rfl) (by kernel_rfl) (fun _ _ _ h => h) (Or.inl ⟨by rfl, ?_⟩) (by assumption) ?_
    · intro w hSw
      go_simp
    try simp only [Act.put, List.setIfInBounds_toArray, List.set_cons_zero, List.set_cons_succ]
    clear hHeld
    refine wpAnyH_done (by kernel_rfl) ?_ _
    go_wp2_with fail
    refine bodyPost_ret (result_ctt rfl _ _ _ _ gr _ 5 _ _ rfl Hc.out Tryd.underlying33 rfl sizePg rfl rfl) rfl ⟨HBc.out, ?_⟩
    rw [HP.out]
    exact ⟨fun h => absurd (show (123 : Int) = 0 from h) (by decide), fun _ => rfl⟩
  have t6 : decide (0 ≤ z) = false := decide_eq_false h6
  rw [if_neg h6, if_neg (by simp)] at HP
  clear hspec h6 HS5
  have hxW : Below w2.heap.size w2 w5 := HB52.out
  obtain ⟨x0, x1, x2, x3, x4⟩ := HCA.out w5 hxW
  clear hxW
  obtain ⟨K0, hK0⟩ : ∃ Y, Y = pkF lo hi (.slice none 0 0) (.slice none 0 0) (.slice A5 n5 c5) := ⟨_, rfl⟩
  have HK0 := Lib.hid hK0
  have HA0 := Lib.hid (show (#[.int .i64 lo, .int .i64 hi, .slice none 0 0, .slice none 0 0, .slice A5 n5 c5] : Array Value) = arr 5 K0 by rw [hK0]; rfl)
  clear hK0
  go_upto_region 13 with (first
    | (refine wpList_alloc_seg rfl 33 rfl 5 zeroPkF zeroPg ?_; intro wa ha hBa hsa; clear hsa)
    | (rw [HA0.out]; refine wpList_store_all rfl 33 _ _ rfl w5.heap.size 33 5 _ K0 rfl rfl ha sizePg (by rw [HK0.out]; exact pkF_one rfl rfl rfl) ?_; intro wb hb hTb hsb; clear hsb))
  obtain ⟨gx, hgx⟩ : ∃ g, g = w5.heap.size := ⟨_, rfl⟩
  have hbb : Below w5.heap.size w5 wb := hBa.trans (hTb.below (Nat.le_refl _) hBa.size)
  rw [← hgx] at hb ⊢
  have HGX := Lib.hid (show w.heap.size ≤ gx ∧ gr ≠ gx from ⟨by have := HB5.out.size; omega, by have h1 := HGR.out.2; have h2 := HB52.out.size; omega⟩)
  have HGB := Lib.hid (show gb ≠ gx from by have h1 := HS.out.box.lt; have h2 := HB52.out.size; omega)
  have HBb := Lib.hid (HB5.out.trans (hbb.mono HB5.out.size))
  have HBb2 := Lib.hid (HB52.out.trans (hbb.mono HB52.out.size))
  have HXb := Lib.hid hb
  have HO5b := Lib.hid (HO5.out.up hbb)
  clear ha hBa hb hTb hbb hgx x0 x1 x2 x3 x4
  obtain ⟨y0, y1, y2, y3, y4⟩ := HCA.out wb HBb2.out
  have k2 : wb.cell? ⟨gx, 2, none⟩ = some (.slice none 0 0) := by rw [HXb.out.cell 2 (by decide), HK0.out]; rfl
  go_upto_region 14 with ((refine append_bytes Tryd.underlying22 byte_info wb rfl (.tmp 60) (.tmp 62) rfl wb.heap.size (.slice none 0 0) [] rfl (OwnB.nil _ _) Ad nd cd data rfl HD.out.len.out ((HD.out.up HBb.out).byt) (by have := HN.out.1; show 0 + nd ≤ _; omega) (Nat.le_refl _) ?_; intro vc wc hOc hBc; have HXc := Lib.hid (HXb.out.up hBc); have HBc := Lib.hid (HBb.out.trans (hBc.mono HBb.out.size)); have HBc2 := Lib.hid (HBb2.out.trans (hBc.mono HBb2.out.size)); have HO5c := Lib.hid (OwnR.up HO5b.out hBc); have HOc := Lib.hid (show OwnB wc w.heap.size vc data from OwnB_base (base' := w.heap.size) hOc HBb.out.size); clear hOc hBc; obtain ⟨Av, nv, cv, rfl, -⟩ := own_full HOc.out; have m2 : wc.cell? ⟨gx, 2, none⟩ = some (.slice none 0 0) := (by rw [HXc.out.cell 2 (by decide), HK0.out]; rfl); have f2 := HXc.out.frozen 2))
  have HTd := Lib.hid (set_touch (k := 2) (v := .slice Av nv cv) HXc.out)
  have HXd := Lib.hid (HXc.out.set_ 2 (.slice Av nv cv))
  have HOd := Lib.hid (ownB_touch HOc.out HTd.out HXc.out (by decide))
  have HO5d := Lib.hid (own_ne HO5c.out HTd.out HXc.out (by decide))
  obtain ⟨wd, hwd⟩ : ∃ u, u = wc.setCell ⟨gx, 2, none⟩ (.slice Av nv cv) := ⟨_, rfl⟩
  rw [← hwd] at HTd HXd HOd HO5d ⊢
  have HBd := Lib.hid (HBc.out.trans (HTd.out.below HGX.out.1 HBc.out.size))
  have HBd2 := Lib.hid (show w2.heap.size ≤ wd.heap.size from Nat.le_trans HBc2.out.size HTd.out.size)
  have HFB := Lib.hid (show FB wd gb 25 5 X from (HS.out.box.up HBc2.out).touch HTd.out HGB.out)
  have HFR := Lib.hid (show FB wd gr 33 5 zeroPkF from (HZ2.out.up HBc2.out).touch HTd.out HGX.out.2)
  clear hwd k2 m2 f2 y0 y1 y2 y3 y4 HTd HXc HOc HO5c HBc HBc2 HXb HO5b HBb HBb2
  have y3 : wd.cell? ⟨gb, 3, none⟩ = some (.slice At nt ct) := by rw [HFB.out.cell 3 (by decide), HX.out]; rfl
  have k3 : wd.cell? ⟨gx, 3, none⟩ = some (.slice none 0 0) := by rw [HXd.out.cell 3 (by decide), HK0.out]; rfl
  go_upto_region 15 with ((refine append_tabs wd rfl (.tmp 66) (.tmp 68) rfl rfl At nt ct tabs rfl (HT.out.up HBd.out) HN.out.2 ?_; intro ve we hOe hBe; have HXe := Lib.hid (HXd.out.up hBe); have HFRe := Lib.hid (HFR.out.up hBe); have HBe := Lib.hid (HBd.out.trans (hBe.mono HBd.out.size)); have HO5e := Lib.hid (OwnR.up HO5d.out hBe); have HODe := Lib.hid (ownB_up HOd.out hBe); have HOe := Lib.hid (show OwnR 69 2 tabF we w.heap.size ve tabs from ownR_base (base' := w.heap.size) hOe HBd.out.size); clear hOe hBe; obtain ⟨Aw, nw, cw, rfl, -⟩ := OwnR.form HOe.out; have m3 : we.cell? ⟨gx, 3, none⟩ = some (.slice none 0 0) := (by rw [HXe.out.cell 3 (by decide), HK0.out]; rfl); have f3 := HXe.out.frozen 3))
  have HTf := Lib.hid (set_touch (k := 3) (v := .slice Aw nw cw) HXe.out)
  have HOf := Lib.hid (ownT_touch HOe.out HTf.out HXe.out (by decide))
  have HODf := Lib.hid (ownB_touch HODe.out HTf.out HXe.out (by decide))
  have HO5f := Lib.hid (own_ne HO5e.out HTf.out HXe.out (by decide))
  have HXf := Lib.hid (show FB (we.setCell ⟨gx, 3, none⟩ (.slice Aw nw cw)) gx 33 5 (pkF lo hi (.slice Av nv cv) (.slice Aw nw cw) (.slice A5 n5 c5)) from (HXe.out.set_ 3 (.slice Aw nw cw)).congr (fun j hj => by
    rw [HK0.out]
    rcases (show j = 0 ∨ j = 1 ∨ j = 2 ∨ j = 3 ∨ j = 4 by omega) with rfl | rfl | rfl | rfl | rfl <;> rfl))
  obtain ⟨wf, hwf⟩ : ∃ u, u = we.setCell ⟨gx, 3, none⟩ (.slice Aw nw cw) := ⟨_, rfl⟩
  rw [← hwf] at HTf HXf HOf HODf HO5f ⊢
  have HFRf := Lib.hid (HFRe.out.touch HTf.out HGX.out.2)
  have HBf := Lib.hid (HBe.out.trans (HTf.out.below HGX.out.1 HBe.out.size))
  obtain ⟨J, hJ⟩ : ∃ Y, Y = pkF lo hi (.slice Av nv cv) (.slice Aw nw cw) (.slice A5 n5 c5) := ⟨_, rfl⟩
  rw [← hJ] at HXf
  have HJ1 := Lib.hid (show ∀ q, q < 5 → (J q).oneCell' = true by rw [hJ]; exact pkF_one rfl rfl rfl)
  have HJ := Lib.hid hJ
  clear hJ hwf y3 k3 m3 f3 HTf HXe HOe HO5e HBe HXd HOd HO5d HBd HFR HFRe HODe
  go_wp2_with (first
    | (refine wpList_load_all rfl 33 _ rfl gx rfl 33 5 J _ HXf.out Tryd.underlying33 rfl sizePg ?_)
    | (refine wpList_store_all rfl 33 _ _ rfl gr 33 5 _ J rfl rfl HFRf.out sizePg HJ1.out ?_; intro wg hg hTg hsg))
  refine bodyPost_ret (result_ctt rfl _ _ _ _ gr _ 5 _ _ rfl hg Tryd.underlying33 rfl sizePg rfl rfl) rfl ⟨HBf.out.trans (hTg.below HGR.out.1 HBf.out.size), ?_⟩
  have o1 := ownB_touch HODf.out hTg HFRf.out (by decide)
  have o2 := ownT_touch HOf.out hTg HFRf.out (by decide)
  have o3 := own_ne HO5f.out hTg HFRf.out (by decide)
  rw [HJ.out]
  rw [HP.out]
  exact ⟨fun _ => ⟨_, _, _, rfl, o1, o2, o3⟩, fun h => absurd rfl h⟩
end Go.Proofs.YtlodoinmippebaaDoor.Pak
