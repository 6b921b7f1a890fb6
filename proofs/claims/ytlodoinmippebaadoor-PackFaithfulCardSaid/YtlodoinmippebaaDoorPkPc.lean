/- Package pack: what instructions lack as a program's; Check. -/
import Derived.Test.YtlodoinmippebaaDoorPkPb
namespace Go.Proofs.YtlodoinmippebaaDoor.Pak
open Go.ChangeShapes Go.WideShapes Go.ChangeAt Go.RowKit
open Cod
set_option linter.unusedVariables false
set_option linter.unusedSimpArgs false
set_option maxRecDepth 100000
theorem sizeIns : (Tryd.prog.info? 71).map (·.size) = some 8 := by kernel_rfl
set_option maxHeartbeats 1000000 in
theorem beyond_any (i : Ins) (d : Int) (g : Nat) (w : World) (hg : w.cell? ⟨g, 0, none⟩ = some (.int .i64 d)) (hlt : g < w.heap.size) :
    Calls Tryd.prog 67 #[.agg (arr 8 (insF i)), .pointer (some ⟨g, 0, none⟩)] w (RetB w (.bool (beyondI d i))) := by
  obtain ⟨T, hT⟩ : ∃ T, T = insF i := ⟨_, rfl⟩
  rw [← hT]
  have HTT := Lib.hid hT
  have HG := Lib.hid hg
  have HLT := Lib.hid hlt
  clear hT hg hlt
  obtain ⟨op, nar, reg, size, dst, src, off, imm⟩ := i
  unfold beyondI
  go_enter Tryd.func67, Tryd.ntmps67
  go_upto_region 1 with (refine wpList_box_seg rfl _ (.tmp 0) rfl 8 T rfl ?_; intro w1 h1 hB1 hs1)
  obtain ⟨gb, hgb⟩ : ∃ gb, gb = w.heap.size := ⟨_, rfl⟩
  rw [← hgb] at h1 ⊢
  have x0 : w1.cell? ⟨gb, 0, none⟩ = some (.int .i64 op) := by rw [h1.cell 0 (by decide), HTT.out]; rfl
  have x7 : w1.cell? ⟨gb, 7, none⟩ = some (.int .i64 imm) := by rw [h1.cell 7 (by decide), HTT.out]; rfl
  have xg : w1.cell? ⟨g, 0, none⟩ = some (.int .i64 d) := (hB1.cell (p := ⟨g, 0, none⟩) HLT.out).trans HG.out
  have HB := Lib.hid hB1
  clear h1 hB1 hs1 hgb HTT
  by_cases e1 : op = 21
  · subst e1
    go_wp2_with fail
    go_ret
    exact ⟨ret_bool (by simp), HB.out⟩
  · have t1 : (op == 21) = false := by rw [beq_eq_false_iff_ne]; exact e1
    have HE := Lib.hid e1
    clear e1
    go_wp2_with fail
    go_ret
    exact ⟨ret_bool (by rw [decide_eq_false HE.out]; rfl), HB.out⟩
set_option maxHeartbeats 2000000 in
theorem index_ins (w : World) (A : Option Addr) (n c : Nat) (T : List Ins) (hL : T.length = n) (hn : n ≤ 1152921504606846976) (hA : RowsAt w A 8 insF T) (K : Nat) (q : Option Addr) (p : Ins → Bool)
    (hen : ∀ (a : Array Value) (W : World), (callFunc K a).run Tryd.prog W = .ok (.enter K a) W)
    (hf : ∀ x W, Below w.heap.size w W → Calls Tryd.prog K #[.agg (arr 8 (insF x)), .pointer q] W (RetB W (.bool (p x)))) :
    Calls Tryd.prog 68 #[.slice A n c, .func (.func K) #[] #[.pointer q]] w (RetB w (.int .i64 (idxF p 0 T))) := by
  have HL := Lib.hid hL
  have HA := Lib.hid hA
  have HF := Lib.hid hf
  clear hL hA hf
  go_enter Tryd.func68, Tryd.ntmps68
  go_wp2_with fail
  go_loopw [5, 8, 9, 10, 11, 12, 13, 14, 15, 16, 18] (fun _ a8 _ _ _ _ _ _ _ _ _ wr => ∃ (j : Nat), a8 = .int .i64 j ∧ j ≤ n ∧ Hid (idxF p j (T.drop j) = idxF p 0 T) ∧ RowsAt wr A 8 insF T ∧ Below w.heap.size w wr) (fun _ a8 _ _ _ _ _ _ _ _ _ _ => (n - (intOf a8)).toNat)
  case atStart => exact ⟨0, rfl, Nat.zero_le _, Lib.hid rfl, HA.out, Below.refl _ _⟩
  case round =>
    obtain ⟨j, rfl, hj, HE, hT, hB⟩ := hrel
    have HT := Lib.hid hT
    have HB := Lib.hid hB
    clear hT hB HA
    by_cases hlt : j < n
    · have hlt' : (j : Int) < n := by omega
      obtain ⟨x, hx, hdr⟩ := drop_cons (l := T) (j := j) (by have := HL.out; omega)
      rw [hdr] at HE
      obtain ⟨b, off, rfl, hbl, hcell⟩ := HT.out (by have := HL.out; omega)
      have HX := Lib.hid (hcell j x hx)
      clear hdr hcell hx
      obtain ⟨X, hX⟩ : ∃ X, X = insF x := ⟨_, rfl⟩
      rw [← hX] at HX
      have HXX := Lib.hid hX
      clear hX
      go_wp2_with (refine wpList_load_cells rfl 71 _ rfl b (off + j * 8) rfl 8 X _ HX.out Tryd.underlying71 rfl sizeIns ?_)
      rw [HXX.out]
      refine (HF.out x wr HB.out).mono ?_
      rintro e w2 ⟨rfl, hB2⟩
      have HB2 := Lib.hid (HB.out.trans (hB2.mono HB.out.size))
      have HT2 := Lib.hid (HT.out.below hB2)
      have HE' := HE.out
      change (if p x = true then (j : Int) else idxF p (j + 1) (T.drop (j + 1))) = idxF p 0 T at HE'
      clear hB2 HX HB HT HE
      cases hp : p x
      · rw [hp, if_neg (by simp)] at HE'
        have HE2 := Lib.hid HE'
        clear HE' hp
        go_wp2_with fail
        go_roundw
        case rel => exact ⟨j + 1, by go_num, by omega, HE2, HT2.out, HB2.out⟩
        case measure => simp [intOf]; omega
      · rw [hp, if_pos rfl] at HE'
        have HE2 := Lib.hid HE'
        clear HE' hp
        go_wp2_with fail
        go_ret
        exact ⟨ret_i64 HE2.out, HB2.out⟩
    · obtain rfl : j = n := by omega
      have HE2 := Lib.hid (show -1 = idxF p 0 T by rw [← HE.out, List.drop_of_length_le (by have := HL.out; omega)]; rfl)
      clear hlt HE
      go_wp2_with fail
      go_ret
      exact ⟨ret_i64 HE2.out, HB.out⟩

set_option maxHeartbeats 2000000 in
theorem lost_any (w : World) (A : Option Addr) (n c : Nat) (L : List Ins) (d : Int) (hL : L.length = n) (hn : n ≤ 1152921504606846976) (h : CodeAt w A L) :
    Calls Tryd.prog 35 #[.slice A n c, .int .i64 d] w (RetB w (.tuple #[.int .i64 (lostL L d).1, .int .i64 (lostL L d).2])) := by
  have HA := Lib.hid h
  have HL := Lib.hid hL
  clear h hL
  obtain ⟨r, hr⟩ : ∃ r, r = lostL L d := ⟨_, rfl⟩
  rw [← hr]
  have HR := Lib.hid hr
  clear hr
  unfold lostL at HR
  go_enter Tryd.func35, Tryd.ntmps35
  have hbx := below_box w (.cells #[.int .i64 d] 3)
  have hnew : (w.alloc (.cells #[.int .i64 d] 3)).cell? ⟨w.heap.size, 0, none⟩ = some (.int .i64 d) := by
    have := (Blk.new w 3 #[.int .i64 d]).cell 0
    simp
  have HB := Lib.hid hbx
  have HN := Lib.hid hnew
  clear hbx hnew
  by_cases h0 : n = 0
  · subst h0
    have HE := Lib.hid (show L = [] from List.eq_nil_of_length_eq_zero HL.out)
    rw [if_pos HE.out] at HR
    go_wp2_with fail
    go_ret2
    exact ⟨by rw [HR.out]; rfl, HB.out⟩
  · have t0 : ((n : Int) == 0) = false := by rw [beq_eq_false_iff_ne]; omega
    have HE := Lib.hid (show L ≠ [] from fun e => h0 (by rw [← HL.out, e]; rfl))
    rw [if_neg HE.out] at HR
    have HK := Lib.hid (index_ins (w.alloc (.cells #[.int .i64 d] 3)) A n c L HL.out hn (code_rows (HA.out.below HB.out)) 67 (some ⟨w.heap.size, 0, none⟩) (beyondI d) (fun a W => by kernel_rfl) (fun x W hW => beyond_any x d w.heap.size W ((hW.cell (p := ⟨w.heap.size, 0, none⟩) (by simp)).trans HN.out) (Nat.lt_of_lt_of_le (by simp) hW.size)))
    obtain ⟨z, hz⟩ : ∃ z, z = idxF (beyondI d) 0 L := ⟨_, rfl⟩
    rw [← hz] at HR HK
    clear hz h0
    have hc : decide (0 ≤ z) = true ∨ decide (0 ≤ z) = false := by cases decide (0 ≤ z) <;> simp
    rcases hc with t1 | t1
    · have HR2 := Lib.hid (show r = (z, 123) by rw [HR.out, if_pos (of_decide_eq_true t1)])
      go_wp2_with (go_at_call 68; refine HK.out.mono ?_; rintro e w2 ⟨rfl, hB2⟩)
      go_ret2
      exact ⟨by rw [HR2.out]; rfl, HB.out.trans (hB2.mono HB.out.size)⟩
    · have HR2 := Lib.hid (show r = (0, 0) by rw [HR.out, if_neg (of_decide_eq_false t1)])
      go_wp2_with (go_at_call 68; refine HK.out.mono ?_; rintro e w2 ⟨rfl, hB2⟩)
      go_ret2
      exact ⟨by rw [HR2.out]; rfl, HB.out.trans (hB2.mono HB.out.size)⟩
structure SmallG (p : Pg) : Prop where
  data : p.data.length ≤ 140737488355328
  code : p.code.length ≤ 2513169434880
  tabs : p.tabs.length ≤ 8796093022208
  bd : Bytes p.data
  rng : ∀ i ∈ p.code, i.rng
set_option maxHeartbeats 4000000 in
theorem checkP_any (w : World) (p : Pg) (vd vt vc : Value) (hp : PgAt w vd vt vc p) (hs : SmallG p) :
    Calls Tryd.prog 20 #[.agg (arr 5 (pkF p.lo p.hi vd vt vc))] w (RetB w (.tuple #[.int .i64 (checkG p).1, .int .i64 (checkG p).2])) := by
  obtain ⟨⟨Ad, nd, cd, rfl, hD⟩, ⟨At, nt, ct, rfl, hT⟩, Ac, nc, cc, rfl, hC⟩ := hp
  have HS := Lib.hid hs
  clear hs
  have HW := Lib.hid (fun (W : World) (hW : Below w.heap.size w W) => wrong_any W p.lo p.hi At Ad nt ct nd cd p.tabs hT.len.out (by have := hT.len.out; have := HS.out.tabs; omega) (hT.up hW).row)
  have HC := Lib.hid (fun (W : World) (hW : Below w.heap.size w W) => check_any W Ac nc cc p.code hC.len.out (by have := hC.len.out; have := HS.out.code; omega) (hC.up hW).row)
  have HLO := Lib.hid (fun (W : World) (hW : Below w.heap.size w W) => lost_any W Ac nc cc p.code (nd : Int) hC.len.out (by have := hC.len.out; have := HS.out.code; omega) (hC.up hW).row)
  obtain ⟨X, hX⟩ : ∃ X, X = pkF p.lo p.hi (.slice Ad nd cd) (.slice At nt ct) (.slice Ac nc cc) := ⟨_, rfl⟩
  rw [← hX]
  have HX := Lib.hid hX
  obtain ⟨r, hr⟩ : ∃ r, r = checkG p := ⟨_, rfl⟩
  rw [← hr]
  have HR := Lib.hid hr
  unfold checkG at HR
  rw [hD.len.out] at HR
  obtain ⟨ez, hez⟩ : ∃ z, z = sizesE p.lo p.hi p.tabs nd := ⟨_, rfl⟩
  rw [← hez] at HW HR
  obtain ⟨ck, hck⟩ : ∃ z, z = checkL p.code 0 := ⟨_, rfl⟩
  rw [← hck] at HC HR
  obtain ⟨lo, hlo⟩ : ∃ z, z = lostL p.code (nd : Int) := ⟨_, rfl⟩
  rw [← hlo] at HLO HR
  clear hX hr hez hck hlo hD hT hC
  obtain ⟨ck1, ck2⟩ := ck
  obtain ⟨lo1, lo2⟩ := lo
  simp only at HC HR HLO
  go_enter Tryd.func20, Tryd.ntmps20
  go_upto_region 1 with (refine wpList_box_seg rfl _ (.tmp 0) rfl 5 X rfl ?_; intro w1 h1 hB1 hs1)
  obtain ⟨gb, hgb⟩ : ∃ g, g = w.heap.size := ⟨_, rfl⟩
  rw [← hgb] at h1 ⊢
  have HB := Lib.hid hB1
  have HCA := Lib.hid (show ∀ W, Below w1.heap.size w1 W → W.cell? ⟨gb, 0, none⟩ = some (.int .i64 p.lo) ∧ W.cell? ⟨gb, 1, none⟩ = some (.int .i64 p.hi) ∧ W.cell? ⟨gb, 2, none⟩ = some (.slice Ad nd cd) ∧ W.cell? ⟨gb, 3, none⟩ = some (.slice At nt ct) ∧ W.cell? ⟨gb, 4, none⟩ = some (.slice Ac nc cc) from fun W hW => by
    have h3 := h1.up hW
    rw [HX.out] at h3
    exact ⟨h3.cell 0 (by decide), h3.cell 1 (by decide), h3.cell 2 (by decide), h3.cell 3 (by decide), h3.cell 4 (by decide)⟩)
  obtain ⟨x0, x1, x2, x3, x4⟩ := HCA.out w1 (Below.refl _ _)
  clear h1 hB1 hs1 hgb
  go_upto_region 2 with (go_at_call 33; refine (HW.out w1 HB.out).mono ?_; rintro e w2 ⟨rfl, hB2⟩)
  have HB2 := Lib.hid (HB.out.trans (hB2.mono HB.out.size))
  have HB12 := Lib.hid hB2
  clear x0 x1 x2 x3 x4 hB2 HW
  by_cases h0 : ez = 0
  case neg =>
    have t0 : (ez != 0) = true := by rw [bne_iff_ne]; exact h0
    rw [if_pos h0] at HR
    clear h0
    go_wp2_with fail
    go_ret2
    exact ⟨by rw [HR.out]; rfl, HB2.out⟩
  rw [if_neg (by simpa using h0)] at HR
  subst h0
  obtain ⟨y0, y1, y2, y3, y4⟩ := HCA.out w2 HB12.out
  go_upto_region 5 with (go_at_call 46; refine (HC.out w2 HB2.out).mono ?_; rintro e w3 ⟨rfl, hB3⟩)
  have HB3 := Lib.hid (HB2.out.trans (hB3.mono HB2.out.size))
  have HB13 := Lib.hid (HB12.out.trans (hB3.mono HB12.out.size))
  clear y0 y1 y2 y3 y4 hB3 HC HB12
  by_cases h1 : ck2 = 0
  case neg =>
    have t1 : (ck2 != 0) = true := by rw [bne_iff_ne]; exact h1
    rw [if_pos h1] at HR
    clear h1
    go_wp2_with fail
    go_ret2
    exact ⟨by rw [HR.out]; rfl, HB3.out⟩
  rw [if_neg (by simpa using h1)] at HR
  subst h1
  obtain ⟨z0, z1, z2, z3, z4⟩ := HCA.out w3 HB13.out
  go_wp2_with (go_at_call 35; refine (HLO.out w3 HB3.out).mono ?_; rintro e w4 ⟨rfl, hB4⟩)
  go_ret2
  exact ⟨by rw [HR.out]; rfl, HB3.out.trans (hB4.mono HB3.out.size)⟩
end Go.Proofs.YtlodoinmippebaaDoor.Pak
