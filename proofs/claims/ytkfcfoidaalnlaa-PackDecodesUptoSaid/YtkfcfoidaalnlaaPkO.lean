/- Package pack: what a section says is put into a container: the tables. -/
import Derived.Test.YtkfcfoidaalnlaaPkN
namespace Go.Proofs.Ytkfcfoidaalnlaa.Pak
open Go.ChangeShapes Go.WideShapes Go.ChangeAt Go.RowKit
set_option linter.unusedVariables false
set_option linter.unusedSimpArgs false
set_option maxRecDepth 100000
def rowT (G : Nat → Int × Int) (k : Nat) : Value := tabF (G (k / 2)) (k % 2)
theorem rowT_at (G : Nat → Int × Int) (j k : Nat) (hk : k < 2) : rowT G (j * 2 + k) = tabF (G j) k := by
  unfold rowT
  rw [show (j * 2 + k) / 2 = j by omega, show (j * 2 + k) % 2 = k by omega]
theorem rowT_upd (G : Nat → Int × Int) (i : Nat) (x : Int × Int) (N : Nat) : ∀ k, k < N → updR (rowT G) (i * 2) 2 (tabF x) k = rowT (fun q => if q = i then x else G q) k := fun k _ => by
  unfold updR rowT
  by_cases h : i * 2 ≤ k ∧ k < i * 2 + 2
  · have e : k / 2 = i := by omega
    simp only [if_pos h, if_pos e, show k - i * 2 = k % 2 by omega]
  · have e : ¬ (k / 2 = i) := by omega
    simp only [if_neg h, if_neg e]
theorem infoT : (Try.prog.info? 60).map (fun i => (i.zero.map Value.cells, i.size, i.bytes)) = some (some (arr 2 (tabF (0, 0))), 2, 16) := by kernel_rfl
structure TabS (w : World) (gk gb gf gt b off q : Nat) (X F : Nat → Value) (L : List Int) (G : Nat → Int × Int) (W : World) : Prop where
  pk : FB W gk 25 5 F
  box : FB W gb 77 3 X
  byt : BytesAt W (some ⟨b, off, none⟩) L
  flt : FB W gf 67 2 (ftF 0 0)
  row : FB W gt 60 (q * 2) (rowT G)
  touch : Touch gk w W
  ne : gk ≠ gb ∧ gk ≠ gf ∧ gk ≠ gt ∧ gb ≠ gt ∧ gf ≠ gt ∧ gb ≠ gf ∧ b ≠ gk ∧ b ≠ gt ∧ w.heap.size ≤ gb ∧ w.heap.size ≤ gf ∧ w.heap.size ≤ gt
theorem TabS.drewN {w : World} {gk gb gf gt b off q : Nat} {X F : Nat → Value} {L : List Int} {G : Nat → Int × Int} {W : World} (h : TabS w gk gb gf gt b off q X F L G W) (m : Nat) : TabS w gk gb gf gt b off q X F L G (W.drewN m) :=
  ⟨h.pk.drewN m, h.box.drewN m, h.byt, h.flt.drewN m, h.row.drewN m, h.touch.trans (Touch.drewN W m), h.ne⟩
theorem TabS.up {w : World} {gk gb gf gt b off q : Nat} {X F : Nat → Value} {L : List Int} {G : Nat → Int × Int} {W W' : World} (h : TabS w gk gb gf gt b off q X F L G W) (hb : Below W.heap.size W W') : TabS w gk gb gf gt b off q X F L G W' :=
  ⟨h.pk.up hb, h.box.up hb, h.byt.below hb, h.flt.up hb, h.row.up hb, h.touch.trans (Touch.of_below hb), h.ne⟩
theorem TabS.at_row {w : World} {gk gb gf gt b off q : Nat} {X F : Nat → Value} {L : List Int} {G G' : Nat → Int × Int} {W W' : World} (h : TabS w gk gb gf gt b off q X F L G W) (ht : Touch gt W W') (hr : FB W' gt 60 (q * 2) (rowT G')) : TabS w gk gb gf gt b off q X F L G' W' := by
  obtain ⟨n1, n2, n3, n4, n5, n6, n7, n8, n9, n10, n11⟩ := h.ne
  exact ⟨h.pk.touch ht n3, h.box.touch ht n4, bytes_touch h.byt ht n8, h.flt.touch ht n5, hr, touch_then h.touch (ht.below n11 h.touch.size), h.ne⟩
section
variable {P : Program} {ops : Array Oper} {w : World}
theorem wpStill_load_cells {Q : Act → Prop} {a : Act} {o : Oper} {rest : List Oper} (hgd : Region.wanted o (yielded ops a.tmps) = true) (ty : TypeId) (x : Operand) (ho : o.op = .load ty x)
    (g off : Nat) (hx : a.eval x = .pointer (some ⟨g, off, none⟩)) (n : Nat) (f : Nat → Value) (d : TypeDesc) (hg : ∀ k, k < n → w.cell? ⟨g, off + k, none⟩ = some (f k))
    (hu : P.underlying ty = some d) (hd : (match d with | .struct _ | .array _ _ => true | _ => false) = true) (hi : (P.info? ty).map (·.size) = some n)
    (h : wpStill P ops w Q rest (a.put o.dst (.agg (arr n f)))) : wpStill P ops w Q (o :: rest) a :=
  wpStill_step fun K hK => by
    rw [if_pos hgd]
    unfold Oper.still execOp
    simp only [ho, hx, Instr.loadAt, Instr.sureAddr, Sem.run_bind, Sem.run_pure, Result.andThen_ok, run_loadVar_cells w g off ty n f d hg hu hd hi, Oper.stillUpon_value]
    exact hK _ h
end
set_option maxHeartbeats 8000000 in
theorem tablesM_any (w : World) (gk base n b off left q : Nat) (k : Pk) (vd vt vc : Value) (kd at_ : Int) (L : List Int) (hk : PkB w gk base k vd vt vc) (hL : L.length = 2 * q) (hq : q ≤ 1048576) (hY : Bytes L) (hA : BytesAt w (some ⟨b, off, none⟩) L) (hne : b ≠ gk) (hlt : b < w.heap.size) (hat : at_ = (n - left : Nat)) (hleft : 2 * q ≤ left ∧ left ≤ n) (hn : n ≤ 1048576) (hbase : base ≤ w.heap.size) :
    Calls Try.prog 58 #[.agg (arr 3 (secF ⟨kd, at_, some ⟨b, off, none⟩, 2 * q, 2 * q, L⟩)), .pointer (some ⟨gk, 0, none⟩)] w fun e w' => Touch gk w w' ∧ IntoRes n gk base (into k 2 L left) e w' := by
  obtain ⟨q2, hq2⟩ : ∃ q2, q2 = 2 * q := ⟨_, rfl⟩
  rw [← hq2]
  obtain ⟨X, hX⟩ : ∃ X, X = secF ⟨kd, at_, some ⟨b, off, none⟩, q2, q2, L⟩ := ⟨_, rfl⟩
  rw [← hX]
  have HX := Lib.hid hX
  have HK := Lib.hid hk
  have HL := Lib.hid hL
  have HY := Lib.hid hY
  have HA := Lib.hid hA
  have HAT := Lib.hid hat
  have HLF := Lib.hid hleft
  have HQ2 := Lib.hid hq2
  have HBS := Lib.hid hbase
  clear hX hk hL hY hA hat hleft hbase
  obtain ⟨r, hr⟩ : ∃ r, r = into k 2 L left := ⟨_, rfl⟩
  rw [← hr]
  have HR := Lib.hid hr
  have HI := Lib.hid (show into k 2 L left = (match tabsR [] left L with
    | .ok t => .ok { k with tabs := t }
    | .error e => .error e) by unfold into; rw [if_neg (by decide), if_pos rfl]; rfl)
  clear hr
  obtain ⟨F0, hF0⟩ : ∃ F, F = pkF k.lo k.hi vd vt vc := ⟨_, rfl⟩
  have HF0 := Lib.hid hF0
  clear hF0
  go_enter Try.func58, Try.ntmps58
  go_upto_region 1 with (first
    | (refine wpList_box_seg rfl _ (.tmp 0) rfl 3 X rfl ?_; intro w1 h1 hB1 hs1)
    | (refine wpList_alloc_seg rfl 67 rfl 2 (ftF 0 0) zeroFt ?_; intro w2 h2 hB2 hs2))
  obtain ⟨gb, hgb⟩ : ∃ gb, gb = w.heap.size := ⟨_, rfl⟩
  obtain ⟨gf, hgf⟩ : ∃ gf, gf = w1.heap.size := ⟨_, rfl⟩
  rw [← hgb] at h1 ⊢
  rw [← hgf] at h2 ⊢
  have hb2 : Below w.heap.size w w2 := hB1.trans (hB2.mono hB1.size)
  have HB2 := Lib.hid hb2
  have HP2 := Lib.hid (show FB w2 gk 25 5 F0 by rw [HF0.out]; exact HK.out.blk.up hb2)
  have HBX := Lib.hid (h1.up hB2)
  have HFT := Lib.hid h2
  have hkl := HK.out.blk.lt
  have hg1 : gb < gf := by omega
  have hg2 : gf < w2.heap.size := by omega
  have hgb0 : w.heap.size ≤ gb := by omega
  have x2 : w2.cell? ⟨gb, 2, none⟩ = some (.slice (some ⟨b, off, none⟩) q2 q2) := by rw [(h1.up hB2).cell 2 (by decide), HX.out]; rfl
  have hmk := run_make_seg (P := Try.prog) w2 23 60 2 16 (tabF (0, 0)) q Try.underlying23 infoT (by decide) (by omega) (by omega)
  have hb3 := below_box w2 (.cells (arr (q * 2) fun p => tabF (0, 0) (p % 2)) 60)
  have hf3 := FB.new w2 60 (q * 2) (fun p => tabF (0, 0) (p % 2))
  have hs3 : (w2.alloc (.cells (arr (q * 2) fun p => tabF (0, 0) (p % 2)) 60)).heap.size = w2.heap.size + 1 := by simp
  obtain ⟨w3, hw3⟩ : ∃ w3, w3 = w2.alloc (.cells (arr (q * 2) fun p => tabF (0, 0) (p % 2)) 60) := ⟨_, rfl⟩
  obtain ⟨gt, hgt⟩ : ∃ gt, gt = w2.heap.size := ⟨_, rfl⟩
  rw [← hw3, ← hgt] at hmk
  rw [← hw3] at hb3 hf3 hs3
  rw [← hgt] at hf3
  have HB3 := Lib.hid hb3
  have HF3 := Lib.hid hf3
  have y3 : w3.cell? ⟨gk, 3, none⟩ = some (F0 3) := (HP2.out.up hb3).cell 3 (by decide)
  have z3 : w3.frozen? ⟨gk, 3, none⟩ = false := (HP2.out.up hb3).frozen 3
  have HG3 := Lib.hid (show gt = w2.heap.size ∧ w3.heap.size = gt + 1 from ⟨hgt, by omega⟩)
  have hdiv : (q2 : Int) / 2 = q := by omega
  have hdiv2 : (q2 : Int).tdiv 2 = q := by rw [Int.tdiv_eq_ediv_of_nonneg (by omega)]; exact hdiv
  have HGL := Lib.hid (show gb < gf ∧ gf < gt ∧ w.heap.size ≤ gb ∧ gk < w.heap.size from ⟨hg1, by omega, hgb0, hkl⟩)
  clear h1 hB1 hs1 h2 hB2 hs2 hb3 hf3 hw3 hq2 hgb hgf hgt hs3 hg1 hg2 hgb0 hkl hb2
  go_upto_region 2 with fail
  obtain ⟨F1, hF1⟩ : ∃ F, F = upd F0 3 (.slice (some ⟨gt, 0, none⟩) q q) := ⟨_, rfl⟩
  obtain ⟨w4, hw4⟩ : ∃ u, u = w3.setCell ⟨gk, 3, none⟩ (.slice (some ⟨gt, 0, none⟩) q q) := ⟨_, rfl⟩
  have HS4 := Lib.hid (show TabS w gk gb gf gt b off q X F1 L (fun _ => (0, 0)) w4 by
    obtain ⟨g1, g2, g3, g4⟩ := HGL.out
    have ht : Touch gk w3 w4 := by rw [hw4]; exact Touch.set_ w3 3 _
    have hb : Below w.heap.size w w3 := HB2.out.trans (HB3.out.mono HB2.out.size)
    exact ⟨by rw [hw4, hF1]; exact (HP2.out.up HB3.out).set_ 3 _, (HBX.out.up HB3.out).touch ht (by omega), bytes_touch (HA.out.below hb) ht hne, (HFT.out.up HB3.out).touch ht (by omega), HF3.out.touch ht (by omega), (Touch.of_below hb).trans ht, ⟨by omega, by omega, by omega, by omega, by omega, by omega, hne, by omega, by omega, by omega, by omega⟩⟩)
  rw [← hw4]
  have HF1 := Lib.hid hF1
  have x4 : w4.cell? ⟨gk, 3, none⟩ = some (.slice (some ⟨gt, 0, none⟩) q q) := by rw [HS4.out.pk.cell 3 (by decide), hF1]; rfl
  clear hw4 hF1 HP2 HBX HFT HB2 HB3 HF3 x2 y3 z3 hmk hdiv hdiv2 HGL HG3 hne hlt HA
  go_wp2_with fail
  go_loopw [5, 6, 7, 21, 22, 23, 24, 25, 26, 27, 28, 29, 30, 31, 32, 33, 34, 35, 36, 37, 38, 39, 40, 41, 42, 43, 49, 50, 51, 52, 59, 60, 61, 62, 63, 64, 65, 66] (fun _ _ _ a21 _ _ _ _ _ _ _ _ _ _ _ _ _ _ _ _ _ _ _ _ _ _ _ _ _ _ _ _ _ _ _ _ _ _ wr => ∃ (j : Nat) (G : Nat → Int × Int), a21 = .int .i64 j ∧ j ≤ q ∧ Hid (tabsR ((List.range j).map G) (left - 2 * j) (L.drop (2 * j)) = tabsR [] left L) ∧ TabS w gk gb gf gt b off q X F1 L G wr) (fun _ _ _ a21 _ _ _ _ _ _ _ _ _ _ _ _ _ _ _ _ _ _ _ _ _ _ _ _ _ _ _ _ _ _ _ _ _ _ _ => (q - intOf a21).toNat)
  case atStart => exact ⟨0, fun _ => (0, 0), rfl, Nat.zero_le _, Lib.hid rfl, HS4.out⟩
  case round =>
    obtain ⟨j, G, rfl, hj, HE, hS⟩ := hrel
    have HS := Lib.hid hS
    clear hS HS4 x4
    by_cases hjq : j < q
    · have hjq' : (j : Int) < q := by omega
      obtain ⟨pj, hpj⟩ : ∃ pj : Nat, pj = 2 * j := ⟨_, rfl⟩
      have hpi : (j : Int) * 2 = pj := by omega
      have hp1 : (pj : Int) < q2 := by have := HQ2.out; omega
      have hp2 : (pj : Int) + 1 < q2 := by have := HQ2.out; omega
      obtain ⟨a, hxa, hd1⟩ := drop_cons (l := L) (j := pj) (by have := HL.out; have := HQ2.out; omega)
      obtain ⟨d, hxd, hd2⟩ := drop_cons (l := L) (j := pj + 1) (by have := HL.out; have := HQ2.out; omega)
      have haB := HY.out a (List.mem_of_getElem? hxa)
      have hdB := HY.out d (List.mem_of_getElem? hxd)
      rw [← hpj, hd1, hd2] at HE
      have HBA := Lib.hid (show ∀ W, BytesAt W (some ⟨b, off, none⟩) L → W.cell? ⟨b, off + pj, none⟩ = some (.int .u8 a) ∧ W.cell? ⟨b, off + (pj + 1), none⟩ = some (.int .u8 d) from fun W hW => by
        obtain ⟨b', off', e, h1, h2⟩ := hW (by have := HL.out; have := HQ2.out; omega)
        injection e with e; injection e with e1 e2
        subst e1 e2
        rw [h2 pj (by have := HL.out; have := HQ2.out; omega), h2 (pj + 1) (by have := HL.out; have := HQ2.out; omega), hxa, hxd]
        exact ⟨rfl, rfl⟩)
      obtain ⟨ha0, ha1⟩ := haB
      obtain ⟨hd0, hd1'⟩ := hdB
      have HPJ := Lib.hid hpj
      have HE2 := Lib.hid (show (if okN a = false then .error (left - pj, 122) else if okN d = false then .error (left - pj - 1, 122) else tabsR ((List.range j).map G ++ [(a, d)]) (left - pj - 2) (L.drop (pj + 1 + 1))) = tabsR [] left L from HE.out)
      clear hd1 hd2 hxa hxd hpj HE
      go_upto_region 6 with fail
      clear hpi
      have e1 : ((pj : Int) + 1).toNat = pj + 1 := by omega
      have e0 : (0 : Int) ≤ (pj : Int) + 1 := by omega
      have hbnd : (pj : Int) + 1 < 4611686018427387904 := by have := HQ2.out; omega
      have HSD := Lib.hid (HS.out.drewN 1)
      refine wp_region_held_drew (S := fun W => TabS w gk gb gf gt b off q X F1 L G W) (by kernel_rfl) (HS.out.drewN 1) (fun hHeld => ?_)

      refine wpAnyH_take (i := 0) (oi := { dst := some 26, op := Op.fieldAddr 77 (Operand.tmp 2) 2, type := 0, pos := "read.go:124", after := #[], guard := none }) (v := .pointer (some ⟨gb, 2, none⟩)) rfl (by kernel_rfl) (by kernel_rfl) (by kernel_rfl) (fun _ _ _ h => h) (Or.inl ⟨by rfl, ?_⟩) (by assumption) ?_
      · intro w hSw
        go_simp
      try simp only [Act.put, List.setIfInBounds_toArray, List.set_cons_zero, List.set_cons_succ]
      refine wpAnyH_take (i := 1) (oi := { dst := some 27, op := Op.load 22 (Operand.tmp 26), type := 22, pos := "read.go:124", after := #[{ on := 0, ground := Ground.data }], guard := none }) (v := .slice (some ⟨b, off, none⟩) q2 q2) rfl (by kernel_rfl) (by kernel_rfl) (by kernel_rfl) (fun _ _ _ h => h) (Or.inl ⟨by rfl, ?_⟩) (by assumption) ?_
      · intro w hSw
        have y2 : w.cell? ⟨gb, 2, none⟩ = some (.slice (some ⟨b, off, none⟩) q2 q2) := by rw [hSw.box.cell 2 (by decide), HX.out]; rfl
        go_simp
      try simp only [Act.put, List.setIfInBounds_toArray, List.set_cons_zero, List.set_cons_succ]
      refine wpAnyH_take (i := 2) (oi := { dst := some 28, op := Op.move (Operand.tmp 6), type := 3, pos := "read.go:124", after := #[], guard := none }) (v := .int .i64 pj) rfl (by kernel_rfl) (by kernel_rfl) (by kernel_rfl) (fun _ _ _ h => h) (Or.inl ⟨by rfl, ?_⟩) (by assumption) ?_
      · intro w hSw
        go_simp
      try simp only [Act.put, List.setIfInBounds_toArray, List.set_cons_zero, List.set_cons_succ]
      refine wpAnyH_take (i := 3) (oi := { dst := some 29, op := Op.indexAddr 22 (Operand.tmp 27) (Operand.tmp 28), type := 0, pos := "read.go:124", after := #[{ on := 1, ground := Ground.data }, { on := 2, ground := Ground.data }], guard := none }) (v := .pointer (some ⟨b, off + pj, none⟩)) rfl (by kernel_rfl) (by kernel_rfl) (by kernel_rfl) (fun _ _ _ h => h) (Or.inl ⟨by rfl, ?_⟩) (by assumption) ?_
      · intro w hSw
        go_simp
      try simp only [Act.put, List.setIfInBounds_toArray, List.set_cons_zero, List.set_cons_succ]
      refine wpAnyH_take (i := 4) (oi := { dst := some 30, op := Op.load 5 (Operand.tmp 29), type := 5, pos := "read.go:124", after := #[{ on := 3, ground := Ground.data }], guard := none }) (v := .int .u8 a) rfl (by kernel_rfl) (by kernel_rfl) (by kernel_rfl) (fun _ _ _ h => h) (Or.inl ⟨by rfl, ?_⟩) (by assumption) ?_
      · intro w hSw
        have y2 := (HBA.out w hSw.byt).1
        go_simp
      try simp only [Act.put, List.setIfInBounds_toArray, List.set_cons_zero, List.set_cons_succ]
      refine wpAnyH_take (i := 5) (oi := { dst := some 31, op := Op.convert 5 3 (Operand.tmp 30), type := 3, pos := "read.go:124", after := #[{ on := 4, ground := Ground.data }], guard := none }) (v := .int .i64 a) rfl (by kernel_rfl) (by kernel_rfl) (by kernel_rfl) (fun _ _ _ h => h) (Or.inl ⟨by rfl, ?_⟩) (by assumption) ?_
      · intro w hSw
        go_simp
        exact IntWalk.i64_in _ (by omega)
      try simp only [Act.put, List.setIfInBounds_toArray, List.set_cons_zero, List.set_cons_succ]
      refine wpAnyH_take (i := 6) (oi := { dst := some 32, op := Op.fieldAddr 77 (Operand.tmp 2) 2, type := 0, pos := "read.go:124", after := #[], guard := none }) (v := .pointer (some ⟨gb, 2, none⟩)) rfl (by kernel_rfl) (by kernel_rfl) (by kernel_rfl) (fun _ _ _ h => h) (Or.inl ⟨by rfl, ?_⟩) (by assumption) ?_
      · intro w hSw
        go_simp
      try simp only [Act.put, List.setIfInBounds_toArray, List.set_cons_zero, List.set_cons_succ]
      refine wpAnyH_take (i := 7) (oi := { dst := some 33, op := Op.load 22 (Operand.tmp 32), type := 22, pos := "read.go:124", after := #[{ on := 6, ground := Ground.data }], guard := none }) (v := .slice (some ⟨b, off, none⟩) q2 q2) rfl (by kernel_rfl) (by kernel_rfl) (by kernel_rfl) (fun _ _ _ h => h) (Or.inl ⟨by rfl, ?_⟩) (by assumption) ?_
      · intro w hSw
        have y2 : w.cell? ⟨gb, 2, none⟩ = some (.slice (some ⟨b, off, none⟩) q2 q2) := by rw [hSw.box.cell 2 (by decide), HX.out]; rfl
        go_simp
      try simp only [Act.put, List.setIfInBounds_toArray, List.set_cons_zero, List.set_cons_succ]
      refine wpAnyH_take (i := 8) (oi := { dst := some 34, op := Op.move (Operand.tmp 6), type := 3, pos := "read.go:124", after := #[], guard := none }) (v := .int .i64 pj) rfl (by kernel_rfl) (by kernel_rfl) (by kernel_rfl) (fun _ _ _ h => h) (Or.inl ⟨by rfl, ?_⟩) (by assumption) ?_
      · intro w hSw
        go_simp
      try simp only [Act.put, List.setIfInBounds_toArray, List.set_cons_zero, List.set_cons_succ]
      refine wpAnyH_take (i := 9) (oi := { dst := some 35, op := Op.binOp BinOp.add 3 (Operand.tmp 34) (Operand.const (Value.int IntKind.i64 1)) 3, type := 3, pos := "read.go:124", after := #[{ on := 8, ground := Ground.data }], guard := none }) (v := .int .i64 ((pj : Int) + 1)) rfl (by kernel_rfl) (by kernel_rfl) (by kernel_rfl) (fun _ _ _ h => h) (Or.inl ⟨by rfl, ?_⟩) (by assumption) ?_
      · intro w hSw
        go_simp
        exact IntWalk.i64_in _ (by omega)
      try simp only [Act.put, List.setIfInBounds_toArray, List.set_cons_zero, List.set_cons_succ]
      refine wpAnyH_take (i := 10) (oi := { dst := some 36, op := Op.indexAddr 22 (Operand.tmp 33) (Operand.tmp 35), type := 0, pos := "read.go:124", after := #[{ on := 7, ground := Ground.data }, { on := 9, ground := Ground.data }], guard := none }) (v := .pointer (some ⟨b, off + (pj + 1), none⟩)) rfl (by kernel_rfl) (by kernel_rfl) (by kernel_rfl) (fun _ _ _ h => h) (Or.inl ⟨by rfl, ?_⟩) (by assumption) ?_
      · intro w hSw
        go_simp
      try simp only [Act.put, List.setIfInBounds_toArray, List.set_cons_zero, List.set_cons_succ]
      refine wpAnyH_take (i := 11) (oi := { dst := some 37, op := Op.load 5 (Operand.tmp 36), type := 5, pos := "read.go:124", after := #[{ on := 10, ground := Ground.data }], guard := none }) (v := .int .u8 d) rfl (by kernel_rfl) (by kernel_rfl) (by kernel_rfl) (fun _ _ _ h => h) (Or.inl ⟨by rfl, ?_⟩) (by assumption) ?_
      · intro w hSw
        have y2 := (HBA.out w hSw.byt).2
        go_simp
      try simp only [Act.put, List.setIfInBounds_toArray, List.set_cons_zero, List.set_cons_succ]
      refine wpAnyH_take (i := 12) (oi := { dst := some 38, op := Op.convert 5 3 (Operand.tmp 37), type := 3, pos := "read.go:124", after := #[{ on := 11, ground := Ground.data }], guard := none }) (v := .int .i64 d) rfl (by kernel_rfl) (by kernel_rfl) (by kernel_rfl) (fun _ _ _ h => h) (Or.inl ⟨by rfl, ?_⟩) (by assumption) ?_
      · intro w hSw
        go_simp
        exact IntWalk.i64_in _ (by omega)
      try simp only [Act.put, List.setIfInBounds_toArray, List.set_cons_zero, List.set_cons_succ]
      refine wpAnyH_take (i := 13) (oi := { dst := some 39, op := Op.build 60 #[(0, Operand.tmp 31), (1, Operand.tmp 38)], type := 60, pos := "read.go:124", after := #[{ on := 5, ground := Ground.data }, { on := 12, ground := Ground.data }], guard := none }) (v := .agg #[.int .i64 a, .int .i64 d]) rfl (by kernel_rfl) (by kernel_rfl) (by kernel_rfl) (fun _ _ _ h => h) (Or.inl ⟨by rfl, ?_⟩) (by assumption) ?_
      · intro w hSw
        go_simp
      try simp only [Act.put, List.setIfInBounds_toArray, List.set_cons_zero, List.set_cons_succ]
      refine wpAnyH_ready (rs := [14]) (by kernel_rfl) (by simp) ?_
      refine AllReadyH.cons (o := { dst := some 7, op := Op.alloc 60, type := 0, pos := "read.go:124", after := #[], guard := none }) rfl ?_ ?_
      rotate_left
      · exact AllReadyH.nil
      intro K hK
      refine step_alloc_seg (by rfl) 60 rfl 2 (tabF (0, 0)) zeroTab ?_
      intro w14 h14 hB14 hs14
      have HS14 := Lib.hid (hHeld.up hB14)
      have H14 := Lib.hid h14
      have HB14 := Lib.hid hB14
      have HSZ := Lib.hid (show wr.heap.size < w14.heap.size by rw [hs14]; exact Nat.lt_succ_self _)
      clear h14 hB14 hs14 hHeld
      refine hK.out _ _ HS14.out (fun hHeld => ?_)
      clear hK K
      try simp only [Act.put, List.setIfInBounds_toArray, List.set_cons_zero, List.set_cons_succ]
      clear hHeld
      refine wpAnyH_ready (rs := [15]) (by kernel_rfl) (by simp) ?_
      refine AllReadyH.cons (o := { dst := none, op := Op.store 60 (Operand.tmp 7) (Operand.tmp 39), type := 0, pos := "read.go:124", after := #[{ on := 14, ground := Ground.data }, { on := 13, ground := Ground.data }, { on := 0, ground := Ground.phase }, { on := 1, ground := Ground.phase }, { on := 2, ground := Ground.phase }, { on := 3, ground := Ground.phase }, { on := 4, ground := Ground.phase }, { on := 5, ground := Ground.phase }, { on := 6, ground := Ground.phase }, { on := 7, ground := Ground.phase }, { on := 8, ground := Ground.phase }, { on := 9, ground := Ground.phase }, { on := 10, ground := Ground.phase }, { on := 11, ground := Ground.phase }, { on := 12, ground := Ground.phase }, { on := 13, ground := Ground.phase }, { on := 14, ground := Ground.phase }], guard := none }) rfl ?_ ?_
      rotate_left
      · exact AllReadyH.nil
      intro K hK
      refine step_store_seg (by rfl) 60 _ _ rfl wr.drew.heap.size 0 60 2 2 _ (tabF (a, d)) rfl rfl H14.out (by omega) sizeTab (tabF_one _) ?_
      intro w15 h15 hT15 hs15
      have hbw : Below wr.drew.heap.size wr.drew w15 := HB14.out.trans (hT15.below (Nat.le_refl _) HB14.out.size)
      have HS15 := Lib.hid (HSD.out.up hbw)
      have H15 := Lib.hid (show FB w15 wr.drew.heap.size 60 2 (tabF (a, d)) from h15.congr fun p hp => by unfold updR; rw [if_pos (by omega), Nat.sub_zero])
      clear h15 hT15 hs15 hbw HS14 H14 HB14
      refine hK.out _ _ HS15.out (fun hHeld => ?_)
      clear hK K
      try simp only [Act.put, List.setIfInBounds_toArray, List.set_cons_zero, List.set_cons_succ]
      clear hHeld
      refine wpAnyH_done (by kernel_rfl) ?_ _
      obtain ⟨gv, hgv⟩ : ∃ gv, gv = wr.drew.heap.size := ⟨_, rfl⟩
      have hgv2 : gv = wr.heap.size := hgv
      have HGV := Lib.hid (show w.heap.size ≤ gv ∧ gt ≠ gv from ⟨by rw [hgv2]; exact HS.out.touch.size, by have := HS.out.row.lt; omega⟩)
      rw [← hgv] at H15 ⊢
      clear hgv hgv2 HSD HS HSZ e1 e0 hbnd
      have x0 : w15.cell? ⟨gv, 0, none⟩ = some (.int .i64 a) := H15.out.cell 0 (by decide)
      have x1 : w15.cell? ⟨gv, 1, none⟩ = some (.int .i64 d) := H15.out.cell 1 (by decide)
      have x9 : w15.cell? ⟨gb, 1, none⟩ = some (.int .i64 at_) := by rw [HS15.out.box.cell 1 (by decide), HX.out]; rfl
      have hne1 := HS15.out.ne
      have HRW := Lib.hid (rows_any a)
      have HWD := Lib.hid (wide_any d)
      cases ha : okN a
      · rw [ha] at HRW HE2
        have HE3 := Lib.hid (show tabsR [] left L = .error (left - pj, 122) from HE2.out.symm)
        have HATP := Lib.hid (show at_ + pj = ((n - (left - pj) : Nat) : Int) by rw [HAT.out]; have := HLF.out; have := HPJ.out; omega)
        obtain ⟨hs0, hs1⟩ : 0 ≤ at_ ∧ at_ ≤ 1048576 := by rw [HAT.out]; omega
        have hq2b : (pj : Int) ≤ 2097152 := by have := HQ2.out; omega
        clear ha HWD
        go_wp2_with (first
          | (go_at_call 52; refine (HRW.out w15).mono ?_; rintro e u ⟨rfl, rfl⟩)
          | (refine wpList_store_all rfl 67 _ _ rfl gf 67 2 _ (ftF (at_ + pj) 122) rfl rfl HS15.out.flt sizeFt (ftF_one _ _) ?_; intro w7 h7 hT7 hs7))
        refine bodyPost_ret (result_seg rfl _ _ gf _ 2 _ _ rfl h7 Try.underlying67 rfl sizeFt) rfl ?_
        refine ⟨touch_then HS15.out.touch (hT7.below hne1.2.2.2.2.2.2.2.2.2.1 HS15.out.touch.size), ?_⟩
        rw [HR.out, HI.out, HE3.out]
        exact ⟨by rw [HATP.out], _, HS15.out.pk.touch hT7 hne1.2.1⟩
      · rw [ha] at HRW HE2
        cases hd : okN d
        · rw [hd] at HWD HE2
          have HE3 := Lib.hid (show tabsR [] left L = .error (left - pj - 1, 122) from HE2.out.symm)
          have HATP := Lib.hid (show at_ + pj + 1 = ((n - (left - pj - 1) : Nat) : Int) by rw [HAT.out]; have := HLF.out; have := HPJ.out; omega)
          obtain ⟨hs0, hs1⟩ : 0 ≤ at_ ∧ at_ ≤ 1048576 := by rw [HAT.out]; omega
          have hq2b : (pj : Int) ≤ 2097152 := by have := HQ2.out; omega
          clear ha hd
          go_wp2_with (first
            | (go_at_call 52; refine (HRW.out w15).mono ?_; rintro e u ⟨rfl, rfl⟩)
            | (go_at_call 53; refine (HWD.out w15).mono ?_; rintro e u ⟨rfl, rfl⟩)
            | (refine wpList_store_all rfl 67 _ _ rfl gf 67 2 _ (ftF (at_ + pj + 1) 122) rfl rfl HS15.out.flt sizeFt (ftF_one _ _) ?_; intro w7 h7 hT7 hs7))
          refine bodyPost_ret (result_seg rfl _ _ gf _ 2 _ _ rfl h7 Try.underlying67 rfl sizeFt) rfl ?_
          refine ⟨touch_then HS15.out.touch (hT7.below hne1.2.2.2.2.2.2.2.2.2.1 HS15.out.touch.size), ?_⟩
          rw [HR.out, HI.out, HE3.out]
          exact ⟨by rw [HATP.out], _, HS15.out.pk.touch hT7 hne1.2.1⟩
        · rw [hd] at HWD HE2
          have HE3 := Lib.hid (show tabsR ((List.range (j + 1)).map fun p => if p = j then (a, d) else G p) (left - 2 * (j + 1)) (L.drop (2 * (j + 1))) = tabsR [] left L by
            have h5 : (List.range (j + 1)).map (fun p => if p = j then (a, d) else G p) = (List.range j).map G ++ [(a, d)] := by
              rw [List.range_succ, List.map_append, List.map_cons, List.map_nil, if_pos rfl]
              congr 1
              refine List.map_congr_left fun p hp => ?_
              rw [if_neg (by have := List.mem_range.1 hp; omega)]
            have h6 : tabsR ((List.range j).map G ++ [(a, d)]) (left - pj - 2) (L.drop (pj + 1 + 1)) = tabsR [] left L := HE2.out
            rw [h5, ← h6, show left - 2 * (j + 1) = left - pj - 2 by have := HPJ.out; omega, show 2 * (j + 1) = pj + 1 + 1 by have := HPJ.out; omega])
          clear ha hd HE2
          go_upto_region 11 with (first
            | (go_at_call 52; refine (HRW.out w15).mono ?_; rintro e u ⟨rfl, rfl⟩)
            | (go_at_call 53; refine (HWD.out w15).mono ?_; rintro e u ⟨rfl, rfl⟩))
          have x3 : w15.cell? ⟨gk, 3, none⟩ = some (.slice (some ⟨gt, 0, none⟩) q q) := by rw [HS15.out.pk.cell 3 (by decide), HF1.out]; rfl
          clear HRW HWD x0 x1 x9
          refine wp_region_tail 7 (by kernel_rfl) (by kernel_rfl) fun W hW => ?_
          simp only [List.take_succ_cons, List.take_zero, List.drop_succ_cons, List.drop_zero]
          have y3 : W.cell? ⟨gk, 3, none⟩ = some (.slice (some ⟨gt, 0, none⟩) q q) := by rw [hW]; exact x3
          have HSW := Lib.hid (show TabS w gk gb gf gt b off q X F1 L G W by rw [hW]; exact HS15.out.drewN 1)
          have HVW := Lib.hid (show ∀ k, k < 2 → W.cell? ⟨gv, 0 + k, none⟩ = some (tabF (a, d) k) from fun k hk => by rw [hW, Nat.zero_add]; exact H15.out.cell k hk)
          obtain ⟨X2, hX2⟩ : ∃ X2, X2 = tabF (a, d) := ⟨_, rfl⟩
          have HX21 := Lib.hid (show ∀ p, p < 2 → (X2 p).oneCell' = true by rw [hX2]; exact tabF_one _)
          rw [← hX2] at HVW
          have HX2 := Lib.hid hX2
          clear hW x3 HS15 H15 hX2
          iterate 5 still_step
          refine wpStill_load_cells rfl 60 _ rfl gv 0 rfl 2 X2 _ HVW.out Try.underlying60 rfl sizeTab ?_
          still_step
          refine wpStill_nil ?_
          go_wp2_with (refine wpList_store_seg rfl 60 _ _ rfl gt (j * 2) 60 (q * 2) 2 (rowT G) X2 rfl rfl HSW.out.row (by omega) sizeTab HX21.out ?_; intro w16 h16 hT16 hs16)
          go_roundw
          case rel =>
            rw [HX2.out] at h16
            exact ⟨j + 1, fun p => if p = j then (a, d) else G p, by go_num, by omega, HE3, HSW.out.at_row hT16 (h16.congr (rowT_upd G j (a, d) (q * 2)))⟩
          case measure => simp [intOf]; omega
    · obtain rfl : j = q := by omega
      have HE2 := Lib.hid (show tabsR [] left L = .ok ((List.range j).map G) by
        rw [← HE.out, List.drop_of_length_le (by have := HL.out; omega)]; rfl)
      have hne1 := HS.out.ne
      clear hjq HE
      go_wp2_with (refine wpList_store_all rfl 67 _ _ rfl gf 67 2 _ (ftF 0 0) rfl rfl HS.out.flt sizeFt (ftF_one _ _) ?_; intro w7 h7 hT7 hs7)
      refine bodyPost_ret (result_seg rfl _ _ gf _ 2 _ _ rfl h7 Try.underlying67 rfl sizeFt) rfl ?_
      have hTT := touch_then HS.out.touch (hT7.below hne1.2.2.2.2.2.2.2.2.2.1 HS.out.touch.size)
      refine ⟨hTT, ?_⟩
      rw [HR.out, HI.out, HE2.out]
      refine ⟨rfl, vd, _, vc, ?_, ownB_touch HK.out.data hTT HK.out.blk (by decide), own_of_fb j (by simp) (HS.out.row.touch hT7 (fun e => hne1.2.2.2.2.1 e.symm)) (Nat.le_trans HBS.out hne1.2.2.2.2.2.2.2.2.2.2) (by unfold maxLen; omega) ?_, ownB_touch HK.out.code hTT HK.out.blk (by decide), HK.out.dc⟩
      · refine (HS.out.pk.touch hT7 hne1.2.1).congr fun p hp => ?_
        rw [HF1.out, HF0.out]
        rcases (show p = 0 ∨ p = 1 ∨ p = 2 ∨ p = 3 ∨ p = 4 by omega) with rfl | rfl | rfl | rfl | rfl <;> rfl
      · intro i x hi k hk
        have hij : i < j := by
          rcases Nat.lt_or_ge i j with h1 | h1
          · exact h1
          · rw [List.getElem?_eq_none (by simpa using h1)] at hi; cases hi
        rw [rowT_at G i k hk]
        have e : G i = x := by simpa [hij] using hi
        rw [e]
end Go.Proofs.Ytkfcfoidaalnlaa.Pak
