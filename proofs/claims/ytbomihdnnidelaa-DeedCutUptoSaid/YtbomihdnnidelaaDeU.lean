/- Package deed: a deed is written. -/
import Derived.Test.YtbomihdnnidelaaDeT
namespace Go.Proofs.Ytbomihdnnidelaa
open Go.ChangeShapes Go.WideShapes Go.ChangeAt Go.RowKit
open Dee
set_option linter.unusedVariables false
set_option linter.unusedSimpArgs false
set_option maxRecDepth 100000
theorem wpList_append_mark {ops : Array Oper} {rest : List Oper} {o : Oper} {a : Act} {w : World} {Q : Exit → Act → World → Prop} (hgd : o.guard = none) (s : Operand)
    (ho : o.op = .call { callee := .builtin .append, args := #[s, .const (.string ⟨#[87, 65, 82, 49]⟩)], argTypes := #[28, 9] }) (hs : a.eval s = .slice none 0 0) (base : Nat) (hb : base ≤ w.heap.size)
    (h : ∀ v' w', OwnB w' base v' markL → Below w.heap.size w w' → wpList Try.prog ops Q rest (a.put o.dst v') w') : wpList Try.prog ops Q (o :: rest) a w :=
  wpList_plain hgd fun _ hK => by
    obtain ⟨i0, hi, hz0, hz1, hz2⟩ := info_parts byte_info
    have hrun := run_append_nil_string (P := Try.prog) w 28 9 o.type 5 i0 _ Try.underlying28 Try.underlying9 hi hz0 ⟨#[87, 65, 82, 49]⟩ (by decide) (by decide) (by rw [hz2]; decide)
    have hcst : a.eval (.const (.string ⟨#[87, 65, 82, 49]⟩)) = .string ⟨#[87, 65, 82, 49]⟩ := rfl
    unfold Oper.wp execOp
    simp only [ho, resolve, invoke, builtin, Sem.run_bind, Sem.run_pure, Result.andThen_ok, List.map_toArray, List.map_cons, List.map_nil, hs, hcst, hrun]
    refine hK _ _ (h _ _ ?_ ?_)
    · have e4 : (⟨#[87, 65, 82, 49]⟩ : ByteArray).size = 4 := rfl
      rw [e4]
      have h1 := grownCap_ge w 4 0 5
      have h2 := grownCap_le_maxLen w 4 0 5 (by unfold maxLen; decide)
      refine ⟨rfl, .inr ⟨w.heap.size, grownCap w 4 0 5, _, rfl, hb, heap_alloc_new w.drew _, h1, h2, ?_, ?_⟩⟩
      · rw [Array.size_append, size_zeroCells]
        show 4 + _ * 1 = _
        omega
      · show (_ : List Value).take 4 = _
        rw [Array.toList_append]
        rfl
    · exact (below_drewN' (Below.refl w.heap.size w) 1).alloc (Nat.le_refl _) _
/-- a deed in memory: its loops, its claims with the lists of their constraints -/
structure Md where
  loops : List Lp
  claims : List Mc
def mcF (p : Mc × Value) : Nat → Value := clF p.1.dead p.1.G p.2
def toDe (d : Md) : De := ⟨d.loops, d.claims.map toCl⟩
structure MdG (d : Md) : Prop where
  loops : (∀ l ∈ d.loops, loopB l = true) ∧ d.loops.length ≤ 8
  claims : (∀ c ∈ d.claims, McG c) ∧ d.claims.length ≤ 512
/-- two slices that are this deed, below B -/
structure DeedAt (B : Nat) (w : World) (vl vc : Value) (d : Md) : Prop where
  loops : ∃ A m c, vl = .slice A m c ∧ Hid (d.loops.length = m) ∧ RowsB B w A 5 loF d.loops
  claims : ∃ A m c ps, vc = .slice A m c ∧ Hid (ps.length = m) ∧ ps.map Prod.fst = d.claims ∧ RowsB B w A 128 mcF ps ∧ ∀ p ∈ ps, ConV B w p.2 p.1.cons
theorem DeedAt.keep {B : Nat} {w w' : World} {vl vc : Value} {d : Md} (h : DeedAt B w vl vc d) (hb : Below B w w') : DeedAt B w' vl vc d := by
  obtain ⟨⟨A, m, c, e, h1, h2⟩, ⟨A', m', c', ps, e', h1', hm, h2', h3⟩⟩ := h
  exact ⟨⟨A, m, c, e, h1, h2.keep hb⟩, ⟨A', m', c', ps, e', h1', hm, h2'.keep hb, fun p hp => (h3 p hp).keep hb⟩⟩
theorem loopsW_len : ∀ (l : List Lp), (∀ c ∈ l, loopB c = true) → (l.flatMap loopW).length ≤ 45 * l.length
  | [], _ => by simp
  | a :: t, h => by
    have h1 := loopsW_len t (fun c hc => h c (by simp [hc]))
    have h2 := loopW_len (h a (by simp))
    rw [List.flatMap_cons, List.length_append, List.length_cons]
    omega
theorem clW_len (x : Mc) (h : McG x) : (clW (toCl x)).length ≤ 40000 := by
  cases hd : x.dead
  · rw [clW_live x hd]
    have h1 := regsW_len x.G 10
    have h2 := entsF_len (fun s => x.G (10 + s)) 32
    have h3 := flatW_len entW 3 entW_len (entsF (fun s => x.G (10 + s)) 32)
    have h4 := num_len10 (entsF (fun s => x.G (10 + s)) 32).length (by omega)
    have h5 := (h.cons hd).2
    have h6 := consW_len x.cons (h.cons hd).1
    have h7 := num_len10 x.cons.length (by omega)
    rw [List.length_cons, len_app, len_app, len_app, len_app]
    omega
  · unfold toCl
    rw [if_pos hd]
    exact Nat.le_of_ble_eq_true rfl
theorem clsW_len : ∀ (l : List Mc), (∀ c ∈ l, McG c) → ((l.map toCl).flatMap clW).length ≤ 40000 * l.length
  | [], _ => by simp
  | a :: t, h => by
    have h1 := clsW_len t (fun c hc => h c (by simp [hc]))
    have h2 := clW_len a (h a (by simp))
    rw [List.map_cons, List.flatMap_cons, List.length_append, List.length_cons]
    omega
set_option maxHeartbeats 8000000 in
theorem deed_w (w : World) (g base B : Nat) (vl vc : Value) (d : Md) (h : Blk w g 71 #[.slice none 0 0]) (hB : B ≤ g ∧ B ≤ base) (hbs : base ≤ w.heap.size) (hd : MdG d) (hat : DeedAt B w vl vc d) :
    Calls Try.prog 30 #[.pointer (some ⟨g, 0, none⟩), .agg (arr 2 (deF vl vc))] w (WrEnd w g base B (deW (toDe d))) := by
  obtain ⟨⟨Al, ml, cl, rfl, HLL, hRl⟩, ⟨Ac, mc, cc, ps, rfl, HLC, hmap, hRc, hCV⟩⟩ := hat
  have HB := Lib.hid hB
  have HBS := Lib.hid hbs
  have HD := Lib.hid hd
  have HRL := Lib.hid hRl
  have HRC := Lib.hid hRc
  have HCV := Lib.hid hCV
  have HMP := Lib.hid hmap
  have HG0 := Lib.hid h
  clear hB hbs hd hRl hRc hCV hmap h
  have hml : ml ≤ 8 := by have := HLL.out; have := HD.out.loops.2; omega
  have hmc : mc ≤ 512 := by have h1 := HLC.out; have h2 := HD.out.claims.2; have h3 := congrArg List.length HMP.out; rw [List.length_map] at h3; omega
  obtain ⟨T, hT⟩ : ∃ T, T = deF (.slice Al ml cl) (.slice Ac mc cc) := ⟨_, rfl⟩
  have HTT := Lib.hid hT
  rw [← hT]
  clear hT
  go_enter Try.func30, Try.ntmps30
  go_upto_region 1 with (refine wpList_box_seg rfl _ (.tmp 1) rfl 2 T rfl ?_; intro w1 h1 hB1 hs1)
  obtain ⟨gb, hgb⟩ : ∃ gb, gb = w.heap.size := ⟨_, rfl⟩
  rw [← hgb] at h1 ⊢
  have HF0 := Lib.hid (show FB w1 gb 26 2 (deF (.slice Al ml cl) (.slice Ac mc cc)) by rw [← HTT.out]; exact h1)
  have HT0 := Lib.hid (WT.of_below hB1 (Nat.le_trans HB.out.2 HBS.out))
  have HG1 := Lib.hid (HG0.out.below hB1 HG0.out.lt)
  have HS1 := Lib.hid (Nat.le_trans HBS.out hB1.size)
  clear h1 hB1 hs1 hgb HG0 HBS
  have x0 : w1.cell? ⟨g, 0, none⟩ = some (.slice none 0 0) := HG1.out.cell 0
  go_upto_region 2 with (refine wpList_append_mark rfl (.tmp 12) rfl rfl base HS1.out ?_; intro v2 w2 h2 hB2; have y0 : w2.cell? ⟨g, 0, none⟩ = some (.slice none 0 0) := (HG1.out.below hB2 HG1.out.lt).cell 0; have f0 : w2.frozen? ⟨g, 0, none⟩ = false := (HG1.out.below hB2 HG1.out.lt).frozen 0; obtain ⟨A2, c2, rfl, -⟩ := h2.form)
  obtain ⟨w3, hw3⟩ : ∃ w3, w3 = w2.setCell ⟨g, 0, none⟩ (.slice A2 markL.length c2) := ⟨_, rfl⟩
  have hg2 := HG1.out.below hB2 HG1.out.lt
  have hne := own_blk_ne h2 hg2 (show 5 ≠ 71 by decide)
  have HW3 := Lib.hid (show Wr w3 g base markL by
    rw [hw3]
    refine ⟨⟨_, hg2.set_ 0 _, own_keep h2 fun b hb _ => Below.heap_setCell _ _ _ _ fun e => ?_⟩, Nat.le_trans HS1.out (Nat.le_trans hB2.size (Touch.set_ (g := g) w2 0 _).size)⟩
    simp only at e
    exact hne (by rw [hb, e]))
  have HT3 := Lib.hid (show WT B w w3 by
    refine HT0.out.trans ⟨?_, fun k t cs hk h1 h3 => ?_⟩
    · rw [hw3]
      exact (hB2.mono (Nat.le_trans HB.out.2 HS1.out)).setCell HB.out.1 _
    · rw [hw3]
      have h5 := hk.below hB2 hk.lt
      exact h5.far (fun e => by simp only at e; subst e; exact (h5.ne_ hg2 h3) rfl) _)
  have HF3 := Lib.hid (show FB w3 gb 26 2 (deF (.slice Al ml cl) (.slice Ac mc cc)) by
    rw [hw3]
    exact (HF0.out.up hB2).touch (Touch.set_ w2 0 _) (Blk.ne_ (HF0.out.up hB2) hg2 (by decide)))
  have hsl : (Value.slice A2 4 c2) = .slice A2 markL.length c2 := rfl
  try rw [hsl]
  rw [← hw3]
  clear hw3 hg2 hne hsl h2 hB2 y0 f0 x0 HF0 HT0 HG1 HS1
  have x1 : w3.cell? ⟨gb, 0, none⟩ = some (.slice Al ml cl) := HF3.out.cell 0 (by decide)
  go_wp2_with fail
  refine (number_w _ g base B markL ml HW3.out HB.out (by omega) (by decide)).mono ?_
  rintro e w4 ⟨rfl, h4, hT4⟩
  have HF4 := Lib.hid (hT4.fb HF3.out (by decide) (by decide))
  have HW4 := Lib.hid h4
  have HT4 := Lib.hid (HT3.out.trans hT4)
  have HN1 := Lib.hid (num_len10 ml (by omega))
  clear h4 hT4 HF3 HW3 HT3 x1
  have x1 : w4.cell? ⟨gb, 0, none⟩ = some (.slice Al ml cl) := HF4.out.cell 0 (by decide)
  go_wp2_with fail
  go_loopw [5, 24, 26, 27, 28, 29, 30, 31] (fun _ a24 _ _ _ _ _ _ wr => ∃ (j : Nat), j ≤ ml ∧ a24 = .int .i64 j ∧ FB wr gb 26 2 (deF (.slice Al ml cl) (.slice Ac mc cc)) ∧ Wr wr g base ((markL ++ num ml) ++ (d.loops.take j).flatMap loopW) ∧ WT B w wr) (fun _ a24 _ _ _ _ _ _ _ => (ml - intOf a24).toNat)
  case atStart => exact ⟨0, by omega, rfl, HF4.out, by rw [show (d.loops.take 0).flatMap loopW = [] from rfl, List.append_nil]; exact HW4.out, HT4.out⟩
  case round =>
    obtain ⟨j, hj, rfl, hF, hWr, hT⟩ := hrel
    clear HF4 HW4 HT4 x1
    have HF := Lib.hid hF
    have HWr := Lib.hid hWr
    have HT := Lib.hid hT
    have HPL := Lib.hid (show ((markL ++ num ml) ++ (d.loops.take j).flatMap loopW).length ≤ 400 by
      have h2 := HN1.out
      have h3 := loopsW_len (d.loops.take j) (fun c hc => HD.out.loops.1 c (List.mem_of_mem_take hc))
      have h4 : (d.loops.take j).length ≤ 8 := by rw [List.length_take]; omega
      rw [len_app, len_app]
      show 4 + _ + _ ≤ _
      omega)
    clear hF hWr hT
    by_cases hlt : j < ml
    · have hlt' : (j : Int) < ml := by omega
      obtain ⟨b, off, rfl, hbB, hcells⟩ := HRL.out (by have := HLL.out; omega)
      obtain ⟨y, hy⟩ : ∃ y, d.loops[j]? = some y := ⟨d.loops[j]'(by have := HLL.out; omega), List.getElem?_eq_getElem _⟩
      have HX3 := Lib.hid (fun k (hk : k < 5) => (HT.out.below.cell (p := ⟨b, off + j * 5 + k, none⟩) hbB).trans (hcells j y hy k hk))
      have HYB := Lib.hid (HD.out.loops.1 y (List.mem_of_getElem? hy))
      have HEQ := Lib.hid (show (markL ++ num ml) ++ (d.loops.take (j + 1)).flatMap loopW = ((markL ++ num ml) ++ (d.loops.take j).flatMap loopW) ++ loopW y by
        rw [List.take_add_one, hy]
        show (markL ++ num ml) ++ (d.loops.take j ++ [y]).flatMap loopW = _
        rw [List.flatMap_append, List.flatMap_cons, List.flatMap_nil, List.append_nil, ← List.append_assoc])
      clear hcells hy
      obtain ⟨F, hFF⟩ : ∃ F, F = loF y := ⟨_, rfl⟩
      rw [← hFF] at HX3
      have HO := Lib.hid (show ∀ q, q < 5 → (F q).oneCell' = true by rw [hFF]; exact loF_one y)
      have HFF := Lib.hid hFF
      clear hFF
      go_upto_region 6 with (first
        | (refine wpList_load_cells rfl 54 _ rfl b (off + j * 5) rfl 5 F _ HX3.out Try.underlying54 rfl sizeLoop ?_)
        | (refine wpList_alloc_seg rfl 54 rfl 5 (loF ⟨0, 0, 0, 0, 0⟩) zeroLoop ?_; intro w6 h6 hB6 hs6)
        | (refine wpList_store_all rfl 54 _ _ rfl wr.heap.size 54 5 _ F rfl rfl h6 sizeLoop HO.out ?_; intro w7 h7 hT7 hs7))
      obtain ⟨gc, hgc⟩ : ∃ gc, gc = wr.heap.size := ⟨_, rfl⟩
      rw [← hgc] at h6 h7 hT7 ⊢
      have hbw : Below wr.heap.size wr w7 := hB6.trans (hT7.below (by omega) hB6.size)
      have HF7 := Lib.hid h7
      have HFD := Lib.hid (HF.out.up hbw)
      have HW7 := Lib.hid (HWr.out.up hbw)
      have HT7 := Lib.hid (HT.out.trans (WT.of_below hbw (Nat.le_trans HB.out.2 HWr.out.base)))
      clear h6 hB6 hs6 h7 hT7 hs7 hgc hbw HX3 HO HWr HT HF
      go_wp2_with (refine wpList_load_all rfl 54 _ rfl gc rfl 54 5 F _ HF7.out Try.underlying54 rfl sizeLoop ?_)
      go_at_call 52
      rw [HFF.out]
      refine (loop_w _ g base B _ y HW7.out HB.out HYB.out (by have := HPL.out; omega)).mono ?_
      rintro e w8 ⟨rfl, h8, hT8⟩
      rw [← HEQ.out] at h8
      have HW8 := Lib.hid h8
      have HF8 := Lib.hid (hT8.fb HFD.out (by decide) (by decide))
      have HT8 := Lib.hid (HT7.out.trans hT8)
      clear h8 hT8 HFD HW7 HT7 HF7
      go_wp2_with fail
      go_roundw
      case rel => exact ⟨j + 1, by omega, by go_num, HF8.out, HW8.out, HT8.out⟩
      case measure => simp [intOf]; omega
    · obtain rfl : j = ml := by omega
      obtain ⟨M, hM⟩ : ∃ M, M = (markL ++ num j) ++ (d.loops.take j).flatMap loopW := ⟨_, rfl⟩
      rw [← hM] at HWr HPL
      have HM := Lib.hid hM
      have hlt' : decide (j < j) = false := by simp
      have x1 : wr.cell? ⟨gb, 1, none⟩ = some (.slice Ac mc cc) := HF.out.cell 1 (by decide)
      clear hlt hj hM
      go_wp2_with fail
      refine (number_w _ g base B M mc HWr.out HB.out (by omega) (by have := HPL.out; omega)).mono ?_
      rintro e w5 ⟨rfl, h5, hT5⟩
      have HF5 := Lib.hid (hT5.fb HF.out (by decide) (by decide))
      have HW5 := Lib.hid h5
      have HT5 := Lib.hid (HT.out.trans hT5)
      have HN2 := Lib.hid (num_len10 mc (by omega))
      clear h5 hT5 HF HWr HT x1
      have x1 : w5.cell? ⟨gb, 1, none⟩ = some (.slice Ac mc cc) := HF5.out.cell 1 (by decide)
      go_wp2_with fail
      go_loopw [7, 40, 42, 43, 44, 45, 46, 47] (fun _ a40 _ _ _ _ _ _ wr => ∃ (i : Nat), i ≤ mc ∧ a40 = .int .i64 i ∧ Wr wr g base ((M ++ num mc) ++ ((d.claims.take i).map toCl).flatMap clW) ∧ WT B w wr) (fun _ a40 _ _ _ _ _ _ _ => (mc - intOf a40).toNat)
      case atStart => exact ⟨0, by omega, rfl, by rw [show ((d.claims.take 0).map toCl).flatMap clW = [] from rfl, List.append_nil]; exact HW5.out, HT5.out⟩
      case round =>
        obtain ⟨i, hi, rfl, hWr, hT⟩ := hrel
        clear HF5 HW5 HT5 x1
        have HWr := Lib.hid hWr
        have HT := Lib.hid hT
        have HPL2 := Lib.hid (show ((M ++ num mc) ++ ((d.claims.take i).map toCl).flatMap clW).length ≤ 20500000 by
          have h2 := HN2.out
          have h1 := HPL.out
          have h3 := clsW_len (d.claims.take i) (fun c hc => HD.out.claims.1 c (List.mem_of_mem_take hc))
          have h4 : (d.claims.take i).length ≤ 512 := by rw [List.length_take]; omega
          rw [len_app, len_app]
          omega)
        clear hWr hT
        by_cases hlt : i < mc
        · have hlt' : (i : Int) < mc := by omega
          obtain ⟨b, off, rfl, hbB, hcells⟩ := HRC.out (by have := HLC.out; omega)
          obtain ⟨y, hy⟩ : ∃ y, ps[i]? = some y := ⟨ps[i]'(by have := HLC.out; omega), List.getElem?_eq_getElem _⟩
          have hyc : d.claims[i]? = some y.1 := by rw [← HMP.out, List.getElem?_map, hy]; rfl
          have HX3 := Lib.hid (fun k (hk : k < 128) => (HT.out.below.cell (p := ⟨b, off + i * 128 + k, none⟩) hbB).trans (hcells i y hy k hk))
          have HYB := Lib.hid (HD.out.claims.1 y.1 (List.mem_of_getElem? hyc))
          have hyv := HCV.out y (List.mem_of_getElem? hy)
          have HYV := Lib.hid (hyv.keep HT.out.below)
          have HV1 := Lib.hid (show y.2.oneCell' = true by obtain ⟨A, m, c, e, _⟩ := hyv; rw [e]; rfl)
          have HEQ := Lib.hid (show (M ++ num mc) ++ ((d.claims.take (i + 1)).map toCl).flatMap clW = ((M ++ num mc) ++ ((d.claims.take i).map toCl).flatMap clW) ++ clW (toCl y.1) by
            rw [List.take_add_one, hyc]
            show (M ++ num mc) ++ ((d.claims.take i ++ [y.1]).map toCl).flatMap clW = _
            rw [List.map_append, List.flatMap_append]
            show (M ++ num mc) ++ (_ ++ [toCl y.1].flatMap clW) = _
            rw [List.flatMap_cons, List.flatMap_nil, List.append_nil, ← List.append_assoc])
          clear hcells hy hyc hyv
          obtain ⟨F, hFF⟩ : ∃ F, F = mcF y := ⟨_, rfl⟩
          rw [← hFF] at HX3
          have HO := Lib.hid (show ∀ q, q < 128 → (F q).oneCell' = true by rw [hFF]; exact clF_one _ _ _ HV1.out)
          have HFF := Lib.hid hFF
          clear hFF
          go_upto_region 12 with (first
            | (refine wpList_load_cells rfl 61 _ rfl b (off + i * 128) rfl 128 F _ HX3.out Try.underlying61 rfl sizeClaim ?_)
            | (refine wpList_alloc_seg rfl 61 rfl 128 (clF false (fun _ => Tag.zero) (.slice none 0 0)) zeroClaim ?_; intro w6 h6 hB6 hs6)
            | (refine wpList_store_all rfl 61 _ _ rfl wr.heap.size 61 128 _ F rfl rfl h6 sizeClaim HO.out ?_; intro w7 h7 hT7 hs7))
          obtain ⟨gc, hgc⟩ : ∃ gc, gc = wr.heap.size := ⟨_, rfl⟩
          rw [← hgc] at h6 h7 hT7 ⊢
          have hbw : Below wr.heap.size wr w7 := hB6.trans (hT7.below (by omega) hB6.size)
          have HF7 := Lib.hid h7
          have HW7 := Lib.hid (HWr.out.up hbw)
          have hbB7 := hbw.mono (Nat.le_trans HB.out.2 HWr.out.base)
          have HT7 := Lib.hid (HT.out.trans (WT.of_below hbw (Nat.le_trans HB.out.2 HWr.out.base)))
          have HYV7 := Lib.hid (HYV.out.keep hbB7)
          clear h6 hB6 hs6 h7 hT7 hs7 hgc hbw hbB7 HX3 HO HWr HT HYV
          go_wp2_with (refine wpList_load_all rfl 61 _ rfl gc rfl 61 128 F _ HF7.out Try.underlying61 rfl sizeClaim ?_)
          go_at_call 53
          rw [HFF.out]
          refine (claim_w _ g base B _ y.1 y.2 HW7.out HB.out HYB.out (fun _ => HYV7.out) (by have := HPL2.out; omega)).mono ?_
          rintro e w8 ⟨rfl, h8, hT8⟩
          rw [← HEQ.out] at h8
          have HW8 := Lib.hid h8
          have HT8 := Lib.hid (HT7.out.trans hT8)
          clear h8 hT8 HW7 HT7 HF7
          go_wp2_with fail
          go_roundw
          case rel => exact ⟨i + 1, by omega, by go_num, HW8.out, HT8.out⟩
          case measure => simp [intOf]; omega
        · obtain rfl : i = mc := by omega
          have HEE := Lib.hid (show deW (toDe d) = (M ++ num i) ++ ((d.claims.take i).map toCl).flatMap clW by
            have hci : d.claims.length = i := by rw [← HMP.out, List.length_map]; exact HLC.out
            rw [HM.out, List.take_of_length_le (by rw [HLL.out]; exact Nat.le_refl _), List.take_of_length_le (by rw [hci]; exact Nat.le_refl _)]
            unfold deW toDe
            simp only [List.length_map, hci, HLL.out, List.append_assoc])
          have hlt' : decide (i < i) = false := by simp
          clear hlt hi
          go_wp2_with fail
          go_end0
          exact ⟨rfl, by rw [HEE.out]; exact HWr.out, HT.out⟩
end Go.Proofs.Ytbomihdnnidelaa
