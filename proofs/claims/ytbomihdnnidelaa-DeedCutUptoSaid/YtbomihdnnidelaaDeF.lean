/- Package deed: a constraint, a tag. Laid by wip/tools/mkdef.py. -/
import Derived.Test.YtbomihdnnidelaaDeE
namespace Go.Proofs.Ytbomihdnnidelaa
open Go.ChangeShapes Go.WideShapes Go.ChangeAt Go.RowKit
open Dee
set_option linter.unusedVariables false
set_option linter.unusedSimpArgs false
set_option maxRecDepth 100000
theorem nat3 {q : Nat} (h : q < 3) : q = 0 ∨ q = 1 ∨ q = 2 := by omega
set_option maxHeartbeats 4000000 in
theorem con_any (w : World) (g : Nat) (A : Option Addr) (n c : Nat) (B L : List Int) (hn : n ≤ 4194304) (h : Rd w g A n c B L) (A' : Option Addr) (m' c' : Nat) (l : List Con) (hm : l.length = m') (hs : m' ≤ 9223372036854775807) (hA : RowsAt w A' 3 coF l) (hAn : ∀ b off, A' = some ⟨b, off, none⟩ → b ≠ g ∧ b < w.heap.size) :
    Calls Try.prog 97 #[.pointer (some ⟨g, 0, none⟩), .slice A' m' c'] w (RdEnd coV w g A n c B (conR l L)) := by
  have HR := Lib.hid h
  have HG := Lib.hid h.blk.lt
  have x1 := h.at1
  obtain ⟨p, hp⟩ : ∃ p : Nat, p = n - L.length := ⟨_, rfl⟩
  rw [← hp] at x1
  have HPE := Lib.hid (show (p : Int) = ((n - L.length : Nat) : Int) by rw [hp])
  have HA := Lib.hid hA
  have HAN := Lib.hid hAn
  have HM := Lib.hid hm
  clear h hA hAn hm hp
  go_enter Try.func97, Try.ntmps97
  go_upto_region 1 with (refine wpList_alloc_seg rfl 63 rfl 3 (coF ⟨0, 0, 0⟩) zeroCon ?_; intro w1 h1 hB1 hs1)
  have x2 : w1.cell? ⟨g, 1, none⟩ = some (.int .i64 (p : Int)) := (hB1.cell (p := ⟨g, 1, none⟩) HG.out).trans x1
  clear x1
  go_upto_region 3 with (refine wpList_alloc_seg rfl 63 rfl 3 (coF ⟨0, 0, 0⟩) zeroCon ?_; intro w2 h2 hB2 hs2)
  obtain ⟨gr, hgr⟩ : ∃ gr, gr = w.heap.size := ⟨_, rfl⟩
  obtain ⟨gl, hgl⟩ : ∃ gl, gl = w1.heap.size := ⟨_, rfl⟩
  have HB2 := Lib.hid (hB1.trans (hB2.mono hB1.size))
  have H0 := Lib.hid (show VrS w g gr gl 63 3 (coF ⟨0, 0, 0⟩) (coF ⟨0, 0, 0⟩) A n c B L w2 from ⟨HR.out.up HB2.out, by rw [hgr]; exact h1.up hB2, by rw [hgl]; exact h2, .of_below HB2.out, by rw [hgr]; exact HG.out, by have := HG.out; omega, by omega, by omega, by omega⟩)
  have HA2 := Lib.hid (HA.out.below HB2.out)
  have HAN2 := Lib.hid (fun b off e => (⟨(HAN.out b off e).1, by have := (HAN.out b off e).2; omega⟩ : b ≠ g ∧ b ≠ gl) : ∀ b off, A' = some ⟨b, off, none⟩ → b ≠ g ∧ b ≠ gl)
  rw [← hgr, ← hgl]
  clear x2 h1 hB1 hs1 h2 hB2 hs2 hgr hgl HR HA HAN HB2
  go_wp2_with fail
  refine (byte_any _ g A n c B L hn H0.out.rd _ varB 91 en_variable (fun b W _ => variable_deed b W)).mono ?_
  intro e v0 hE
  cases hg0 : byteR varB 91 L with
  | error x =>
    obtain ⟨lf, er⟩ := x
    obtain ⟨rfl, hT⟩ := hE.no hg0
    have HT1 := Lib.hid (H0.out.touch.trans hT)
    have HG := Lib.hid (show conR l L = .error (lf, er) by unfold conR; rw [hg0]; rfl)
    clear hE hg0 hT
    go_wp2_with fail
    exact ⟨rfl, RdEnd.bad HG.out rfl HT1.out⟩
  | ok x =>
    obtain ⟨xi, L1⟩ := x
    obtain ⟨rfl, hR, hT⟩ := hE.ok hg0
    unfold i64V
    have hS := H0.out.read hR hT
    have k0 : v0.cell? ⟨gl, 0, none⟩ = some (.int .i64 0) := hS.var.cell 0 (by decide)
    have f0 : v0.frozen? ⟨gl, 0, none⟩ = false := FB.frozen hS.var 0
    have HS := Lib.hid hS
    have HG0 := Lib.hid hg0
    have HA3 := Lib.hid (HA2.out.touch (fun b off e => (HAN2.out b off e).1) hT)
    clear hS hE hg0 hR hT H0
    go_upto_region 4 with (fail)
    obtain ⟨u0, hu⟩ : ∃ u, u = v0.setCell ⟨gl, 0, none⟩ (.int .i64 xi) := ⟨_, rfl⟩
    have H1 := Lib.hid (show VrS w g gr gl 63 3 (coF ⟨0, 0, 0⟩) (coF ⟨xi, 0, 0⟩) A n c B L1 u0 by
      rw [hu]
      refine HS.out.put 0 _ fun q hq => ?_
      unfold upd
      rcases nat3 hq with rfl | rfl | rfl <;> rfl)
    have HA4 := Lib.hid (show RowsAt u0 A' 3 coF l by rw [hu]; exact HA3.out.touch (fun b off e => (HAN2.out b off e).2) (Touch.set_ v0 0 _))
    clear HA3 HA2
    rw [← hu]
    clear hu HS k0 f0
    go_wp2_with fail
    refine (byte_any1 _ g A n c B L1 hn H1.out.rd _ ⟨gl, 0, none⟩ (fun n => varB n && !decide (n = xi)) 91 en_con1 (fun b W hW => con1_any b xi gl W ((H1.out.var.touch hW (by have := H1.out.ll; omega)).cell 0 (by decide)))).mono ?_
    intro e v1 hE
    cases hg1 : byteR (fun n => varB n && !decide (n = xi)) 91 L1 with
    | error x =>
      obtain ⟨lf, er⟩ := x
      obtain ⟨rfl, hT⟩ := hE.no hg1
      have HT1 := Lib.hid (H1.out.touch.trans hT)
      have HG := Lib.hid (show conR l L = .error (lf, er) by unfold conR; rw [HG0.out, bnd_ok, hg1]; rfl)
      clear hE hg1 hT
      go_wp2_with fail
      exact ⟨rfl, RdEnd.bad HG.out rfl HT1.out⟩
    | ok x =>
      obtain ⟨xj, L2⟩ := x
      obtain ⟨rfl, hR, hT⟩ := hE.ok hg1
      unfold i64V
      have hS := H1.out.read hR hT
      have k1 : v1.cell? ⟨gl, 1, none⟩ = some (.int .i64 0) := hS.var.cell 1 (by decide)
      have f1 : v1.frozen? ⟨gl, 1, none⟩ = false := FB.frozen hS.var 1
      have HS := Lib.hid hS
      have HG1 := Lib.hid hg1
      have HA5 := Lib.hid (HA4.out.touch (fun b off e => (HAN2.out b off e).1) hT)
      clear hS hE hg1 hR hT H1
      go_upto_region 5 with (fail)
      obtain ⟨u1, hu⟩ : ∃ u, u = v1.setCell ⟨gl, 1, none⟩ (.int .i64 xj) := ⟨_, rfl⟩
      have H2 := Lib.hid (show VrS w g gr gl 63 3 (coF ⟨0, 0, 0⟩) (coF ⟨xi, xj, 0⟩) A n c B L2 u1 by
        rw [hu]
        refine HS.out.put 1 _ fun q hq => ?_
        unfold upd
        rcases nat3 hq with rfl | rfl | rfl <;> rfl)
      have HA6 := Lib.hid (show RowsAt u1 A' 3 coF l by rw [hu]; exact HA5.out.touch (fun b off e => (HAN2.out b off e).2) (Touch.set_ v1 1 _))
      clear HA5 HA4
      rw [← hu]
      clear hu HS k1 f1
      have hrow : ∀ k, k < 3 → u1.cell? ⟨gl, 0 + k, none⟩ = some (coF ⟨xi, xj, 0⟩ k) := fun k hk => by rw [Nat.zero_add]; exact H2.out.var.cell k hk
      have HROW := Lib.hid hrow
      have HRI := Lib.hid (rises_any u1 A' m' c' l ⟨xi, xj, 0⟩ HM.out hs HA6.out)
      have hCR : conR l L = if risesB l ⟨xi, xj, 0⟩ = true then bnd (sgnR constB 91 L2) fun c L3 => .ok (⟨xi, xj, c⟩, L3) else .error (L.length, 111) := by unfold conR; rw [HG0.out, bnd_ok, HG1.out, bnd_ok]
      have HCR := Lib.hid hCR
      clear hrow hCR HA6 HG0 HG1 HAN2 HM
      obtain ⟨F1, hF1⟩ : ∃ F, F = coF ⟨xi, xj, 0⟩ := ⟨_, rfl⟩
      unfold coV at HRI
      rw [← hF1] at HROW HRI
      have HF1 := Lib.hid hF1
      clear hF1
      go_wp2_with (refine wpList_load_cells rfl 63 _ rfl gl 0 rfl 3 F1 _ HROW.out Try.underlying63 rfl sizeCon ?_)
      go_at_call 73
      refine HRI.out.mono ?_
      rintro e u2 ⟨rfl, hB⟩
      have hCR := HCR.out
      have H3 := Lib.hid (H2.out.up hB)
      by_cases hr : risesB l ⟨xi, xj, 0⟩ = true
      · rw [if_pos hr] at hCR
        rw [hr]
        have HCR2 := Lib.hid hCR
        clear hCR hr HCR hB HRI HROW
        go_wp2_with fail
        go_at_call 61
        refine (need_yes _ _ _).mono ?_
        rintro e u3 ⟨rfl, rfl⟩
        go_wp2_with fail
        refine (signed_deed _ g A n c B L2 hn H3.out.rd _ constB 91 en_constant (fun b W _ => constant_deed b W)).mono ?_
        intro e v2 hE
        cases hg2 : sgnR constB 91 L2 with
        | error x =>
          obtain ⟨lf, er⟩ := x
          obtain ⟨rfl, hT⟩ := hE.no hg2
          have HT1 := Lib.hid (H3.out.touch.trans hT)
          have HG := Lib.hid (show conR l L = .error (lf, er) by rw [HCR2.out, hg2]; rfl)
          clear hE hg2 hT
          go_wp2_with fail
          exact ⟨rfl, RdEnd.bad HG.out rfl HT1.out⟩
        | ok x =>
          obtain ⟨xc, L3⟩ := x
          obtain ⟨rfl, hR, hT⟩ := hE.ok hg2
          unfold i64V
          have hS := H3.out.read hR hT
          have k2 : v2.cell? ⟨gl, 2, none⟩ = some (.int .i64 0) := hS.var.cell 2 (by decide)
          have f2 : v2.frozen? ⟨gl, 2, none⟩ = false := FB.frozen hS.var 2
          have HS := Lib.hid hS
          have HG := Lib.hid (show conR l L = .ok (⟨xi, xj, xc⟩, L3) by rw [HCR2.out, hg2]; rfl)
          clear hS hE hg2 hR hT H3 H2 HCR2
          go_upto_region 7 with (fail)
          obtain ⟨u4, hu⟩ : ∃ u, u = v2.setCell ⟨gl, 2, none⟩ (.int .i64 xc) := ⟨_, rfl⟩
          have H5 := Lib.hid (show VrS w g gr gl 63 3 (coF ⟨0, 0, 0⟩) (coF ⟨xi, xj, xc⟩) A n c B L3 u4 by
            rw [hu]
            refine HS.out.put 2 _ fun q hq => ?_
            unfold upd
            rcases nat3 hq with rfl | rfl | rfl <;> rfl)
          rw [← hu]
          clear hu HS k2 f2
          have hO := coF_one ⟨xi, xj, xc⟩
          obtain ⟨F, hF⟩ : ∃ F, F = coF ⟨xi, xj, xc⟩ := ⟨_, rfl⟩
          have H6 := Lib.hid (show FB u4 gl 63 3 F by rw [hF]; exact H5.out.var)
          rw [← hF] at hO
          have HO := Lib.hid hO
          have HF := Lib.hid hF
          clear hO hF
          go_wp2_with (first
            | (refine wpList_load_all rfl 63 _ rfl gl rfl 63 3 F _ H6.out Try.underlying63 rfl sizeCon ?_)
            | (refine wpList_store_all rfl 63 _ _ rfl gr 63 3 _ F rfl rfl H5.out.res sizeCon HO.out ?_; intro w7 h7 hT7 hs7))
          refine bodyPost_ret (result_seg rfl _ _ gr _ 3 _ _ rfl h7 Try.underlying63 rfl sizeCon) rfl (RdEnd.mk HG.out (by rw [HF.out]; rfl) (H5.out.rd.far H5.out.lr hT7) (H5.out.touch.own H5.out.nr hT7))
      · rw [if_neg hr] at hCR
        have hr2 : risesB l ⟨xi, xj, 0⟩ = false := by simpa using hr
        rw [hr2]
        have HCR2 := Lib.hid hCR
        clear hCR hr hr2 HCR hB HRI HROW
        go_wp2_with fail
        go_at_call 61
        refine (need_no _ _ _).mono ?_
        rintro e u3 ⟨rfl, rfl⟩
        go_wp2_with fail
        exact ⟨rfl, RdEnd.bad HCR2.out (by rw [HPE.out]) H3.out.touch⟩

/-! tags -/
def tgF (t : Tag) : Nat → Value := fun q => if q = 0 then .int .i64 t.k else if q = 1 then .int .i64 t.t else .int .i64 t.m
def tgV (t : Tag) : Value := .agg (arr 3 (tgF t))
theorem zeroTag : (Try.prog.info? 56).bind (fun i => i.zero.map Value.cells) = some (arr 3 (tgF ⟨0, 0, 0⟩)) := by kernel_rfl
theorem sizeTag : (Try.prog.info? 56).map (·.size) = some 3 := by kernel_rfl
theorem tgF_one (t : Tag) : ∀ q, q < 3 → (tgF t q).oneCell' = true := fun q hq => by
  rcases nat3 hq with rfl | rfl | rfl <;> rfl
theorem tagR_err {slot : Bool} {L : List Int} {x : Nat × Int} (h : byteR kindB 90 L = .error x) : tagR slot L = .error x := by unfold tagR; rw [h]; rfl
set_option maxHeartbeats 4000000 in
theorem tag_any (w : World) (g : Nat) (A : Option Addr) (n c : Nat) (B L : List Int) (hn : n ≤ 4194304) (h : Rd w g A n c B L) (slot : Bool) :
    Calls Try.prog 86 #[.pointer (some ⟨g, 0, none⟩), .bool slot] w (RdEnd tgV w g A n c B (tagR slot L)) := by
  have HR := Lib.hid h
  have HG := Lib.hid h.blk.lt
  clear h
  go_enter Try.func86, Try.ntmps86
  go_upto_region 1 with (refine wpList_alloc_seg rfl 56 rfl 3 (tgF ⟨0, 0, 0⟩) zeroTag ?_; intro w1 h1 hB1 hs1)
  obtain ⟨gr, hgr⟩ : ∃ gr, gr = w.heap.size := ⟨_, rfl⟩
  rw [← hgr] at h1 ⊢
  have HR1 := Lib.hid (HR.out.up hB1)
  have H1 := Lib.hid h1
  have HT1 := Lib.hid (Touch.of_below hB1 (g := g))
  have HGR := Lib.hid (show g < gr ∧ w.heap.size ≤ gr by have := HG.out; omega)
  clear h1 hB1 hs1 hgr HR HG
  go_wp2_with fail
  refine (byte_any _ g A n c B L hn HR1.out _ kindB 90 en_kind (fun b W _ => kind_deed b W)).mono ?_
  intro e v0 hE
  cases hg0 : byteR kindB 90 L with
  | error x =>
    obtain ⟨lf, er⟩ := x
    obtain ⟨rfl, hT⟩ := hE.no hg0
    have HT2 := Lib.hid (HT1.out.trans hT)
    have HG := Lib.hid (tagR_err (slot := slot) hg0)
    clear hE hg0 hT
    go_wp2_with fail
    exact ⟨rfl, RdEnd.bad HG.out rfl HT2.out⟩
  | ok x =>
    obtain ⟨xk, L1⟩ := x
    obtain ⟨rfl, hR, hT⟩ := hE.ok hg0
    unfold i64V
    have HGT := Lib.hid (show tagR slot L = bnd (tailR slot xk L1) fun x L2 => .ok (⟨xk, x.1, x.2⟩, L2) by unfold tagR; rw [hg0, bnd_ok])
    have HR2 := Lib.hid hR
    have HT2 := Lib.hid (HT1.out.trans hT)
    have H2 := Lib.hid (H1.out.touch hT (by have := HGR.out; omega))
    clear hE hg0 hR hT HR1 H1 HT1
    go_upto_region 2 with (first
      | (refine wpList_alloc_seg rfl 56 rfl 3 (tgF ⟨0, 0, 0⟩) zeroTag ?_; intro w2 h2 hB2 hs2)
      | (refine wpList_store_all rfl 56 _ _ rfl v0.heap.size 56 3 _ (tgF ⟨xk, 0, 0⟩) rfl rfl h2 sizeTag (tgF_one _) ?_; intro w3 h3 hT3 hs3))
    obtain ⟨gl, hgl⟩ : ∃ gl, gl = v0.heap.size := ⟨_, rfl⟩
    rw [← hgl] at h2 h3 hT3 ⊢
    have H3 := Lib.hid (show VrS w g gr gl 56 3 (tgF ⟨0, 0, 0⟩) (tgF ⟨xk, 0, 0⟩) A n c B L1 w3 from
      ⟨(HR2.out.up hB2).far (by have := HR2.out.blk.lt; omega) hT3, (H2.out.up hB2).touch hT3 (by have := H2.out.lt; omega), h3, (HT2.out.up hB2).own (by have := HT2.out.size; omega) hT3, HGR.out.1, by have := HR2.out.blk.lt; omega, by have := H2.out.lt; omega, HGR.out.2, by have := HT2.out.size; omega⟩)
    clear h2 hB2 hs2 h3 hT3 hs3 hgl HR2 H2 HT2 HGR
    have k0 : w3.cell? ⟨gl, 0, none⟩ = some (.int .i64 xk) := H3.out.var.cell 0 (by decide)
    go_wp2_with fail
    refine (tabled_any xk _).mono ?_
    rintro e u0 ⟨rfl, rfl⟩
    by_cases ht : tabledB xk = true
    · have HGT2 := Lib.hid (show tagR slot L = bnd (bnd (byteR tableB 90 L1) fun x s => .ok ((x, 0), s)) fun x L2 => .ok (⟨xk, x.1, x.2⟩, L2) by rw [HGT.out]; unfold tailR; rw [if_pos ht])
      rw [ht]
      clear ht HGT
      go_wp2_with fail
      refine (byte_any _ g A n c B L1 hn H3.out.rd _ tableB 90 en_table (fun b W _ => table_deed b W)).mono ?_
      intro e v1 hE
      cases hg1 : byteR tableB 90 L1 with
      | error x =>
        obtain ⟨lf, er⟩ := x
        obtain ⟨rfl, hT⟩ := hE.no hg1
        have HT2 := Lib.hid (H3.out.touch.trans hT)
        have HG := Lib.hid (show tagR slot L = .error (lf, er) by rw [HGT2.out, hg1]; rfl)
        clear hE hg1 hT
        go_wp2_with fail
        exact ⟨rfl, RdEnd.bad HG.out rfl HT2.out⟩
      | ok x =>
        obtain ⟨y, L2⟩ := x
        obtain ⟨rfl, hR, hT⟩ := hE.ok hg1
        unfold i64V
        have hS := H3.out.read hR hT
        have k1 : v1.cell? ⟨gl, 1, none⟩ = some (.int .i64 0) := hS.var.cell 1 (by decide)
        have f1 : v1.frozen? ⟨gl, 1, none⟩ = false := FB.frozen hS.var 1
        have HS := Lib.hid hS
        have HG := Lib.hid (show tagR slot L = .ok (⟨xk, y, 0⟩, L2) by rw [HGT2.out, hg1]; rfl)
        clear hS hE hg1 hR hT H3 HGT2 k0
        go_upto_region 6 with (fail)
        obtain ⟨u4, hu⟩ : ∃ u, u = v1.setCell ⟨gl, 1, none⟩ (.int .i64 y) := ⟨_, rfl⟩
        have H5 := Lib.hid (show VrS w g gr gl 56 3 (tgF ⟨0, 0, 0⟩) (tgF ⟨xk, y, 0⟩) A n c B L2 u4 by
          rw [hu]
          refine HS.out.put 1 _ fun q hq => ?_
          unfold upd
          rcases nat3 hq with rfl | rfl | rfl <;> rfl)
        rw [← hu]
        clear hu HS k1 f1
        have hO := tgF_one ⟨xk, y, 0⟩
        obtain ⟨F, hF⟩ : ∃ F, F = tgF ⟨xk, y, 0⟩ := ⟨_, rfl⟩
        have H6 := Lib.hid (show FB u4 gl 56 3 F by rw [hF]; exact H5.out.var)
        rw [← hF] at hO
        have HO := Lib.hid hO
        have HF := Lib.hid hF
        clear hO hF
        go_wp2_with (first
          | (refine wpList_load_all rfl 56 _ rfl gl rfl 56 3 F _ H6.out Try.underlying56 rfl sizeTag ?_)
          | (refine wpList_store_all rfl 56 _ _ rfl gr 56 3 _ F rfl rfl H5.out.res sizeTag HO.out ?_; intro w7 h7 hT7 hs7))
        refine bodyPost_ret (result_seg rfl _ _ gr _ 3 _ _ rfl h7 Try.underlying56 rfl sizeTag) rfl (RdEnd.mk HG.out (by rw [HF.out]; rfl) (H5.out.rd.far H5.out.lr hT7) (H5.out.touch.own H5.out.nr hT7))
    · have ht2 : tabledB xk = false := by simpa using ht
      rw [ht2]
      by_cases hsl : slot = true
      · subst hsl
        by_cases hk0 : xk = 0
        · subst hk0
          have HGT2 := Lib.hid (show tagR true L = bnd (bnd (byteR writB 90 L1) fun x s => .ok ((0, x), s)) fun x L2 => .ok (⟨0, x.1, x.2⟩, L2) by rw [HGT.out]; unfold tailR; rw [if_neg ht]; rfl)
          clear ht ht2 HGT
          go_wp2_with fail
          refine (byte_any _ g A n c B L1 hn H3.out.rd _ writB 90 en_written (fun b W _ => written_deed b W)).mono ?_
          intro e v1 hE
          cases hg1 : byteR writB 90 L1 with
          | error x =>
            obtain ⟨lf, er⟩ := x
            obtain ⟨rfl, hT⟩ := hE.no hg1
            have HT2 := Lib.hid (H3.out.touch.trans hT)
            have HG := Lib.hid (show tagR true L = .error (lf, er) by rw [HGT2.out, hg1]; rfl)
            clear hE hg1 hT
            go_wp2_with fail
            exact ⟨rfl, RdEnd.bad HG.out rfl HT2.out⟩
          | ok x =>
            obtain ⟨y, L2⟩ := x
            obtain ⟨rfl, hR, hT⟩ := hE.ok hg1
            unfold i64V
            have hS := H3.out.read hR hT
            have k1 : v1.cell? ⟨gl, 2, none⟩ = some (.int .i64 0) := hS.var.cell 2 (by decide)
            have f1 : v1.frozen? ⟨gl, 2, none⟩ = false := FB.frozen hS.var 2
            have HS := Lib.hid hS
            have HG := Lib.hid (show tagR true L = .ok (⟨0, 0, y⟩, L2) by rw [HGT2.out, hg1]; rfl)
            clear hS hE hg1 hR hT H3 HGT2 k0
            go_upto_region 6 with (fail)
            obtain ⟨u4, hu⟩ : ∃ u, u = v1.setCell ⟨gl, 2, none⟩ (.int .i64 y) := ⟨_, rfl⟩
            have H5 := Lib.hid (show VrS w g gr gl 56 3 (tgF ⟨0, 0, 0⟩) (tgF ⟨0, 0, y⟩) A n c B L2 u4 by
              rw [hu]
              refine HS.out.put 2 _ fun q hq => ?_
              unfold upd
              rcases nat3 hq with rfl | rfl | rfl <;> rfl)
            rw [← hu]
            clear hu HS k1 f1
            have hO := tgF_one ⟨0, 0, y⟩
            obtain ⟨F, hF⟩ : ∃ F, F = tgF ⟨0, 0, y⟩ := ⟨_, rfl⟩
            have H6 := Lib.hid (show FB u4 gl 56 3 F by rw [hF]; exact H5.out.var)
            rw [← hF] at hO
            have HO := Lib.hid hO
            have HF := Lib.hid hF
            clear hO hF
            go_wp2_with (first
              | (refine wpList_load_all rfl 56 _ rfl gl rfl 56 3 F _ H6.out Try.underlying56 rfl sizeTag ?_)
              | (refine wpList_store_all rfl 56 _ _ rfl gr 56 3 _ F rfl rfl H5.out.res sizeTag HO.out ?_; intro w7 h7 hT7 hs7))
            refine bodyPost_ret (result_seg rfl _ _ gr _ 3 _ _ rfl h7 Try.underlying56 rfl sizeTag) rfl (RdEnd.mk HG.out (by rw [HF.out]; rfl) (H5.out.rd.far H5.out.lr hT7) (H5.out.touch.own H5.out.nr hT7))
        · have tk : (xk == 0) = false := by rw [beq_eq_false_iff_ne]; exact hk0
          have HG := Lib.hid (show tagR true L = .ok (⟨xk, 0, 0⟩, L1) by rw [HGT.out]; unfold tailR; rw [if_neg ht, if_neg (by simp [hk0])]; rfl)
          clear ht ht2 HGT hk0
          have hO := tgF_one ⟨xk, 0, 0⟩
          obtain ⟨F, hF⟩ : ∃ F, F = tgF ⟨xk, 0, 0⟩ := ⟨_, rfl⟩
          have H6 := Lib.hid (show FB w3 gl 56 3 F by rw [hF]; exact H3.out.var)
          rw [← hF] at hO
          have HO := Lib.hid hO
          have HF := Lib.hid hF
          clear hO hF
          go_wp2_with (first
            | (refine wpList_load_all rfl 56 _ rfl gl rfl 56 3 F _ H6.out Try.underlying56 rfl sizeTag ?_)
            | (refine wpList_store_all rfl 56 _ _ rfl gr 56 3 _ F rfl rfl H3.out.res sizeTag HO.out ?_; intro w7 h7 hT7 hs7))
          refine bodyPost_ret (result_seg rfl _ _ gr _ 3 _ _ rfl h7 Try.underlying56 rfl sizeTag) rfl (RdEnd.mk HG.out (by rw [HF.out]; rfl) (H3.out.rd.far H3.out.lr hT7) (H3.out.touch.own H3.out.nr hT7))
      · have hsl2 : slot = false := by simpa using hsl
        subst hsl2
        have HG := Lib.hid (show tagR false L = .ok (⟨xk, 0, 0⟩, L1) by rw [HGT.out]; unfold tailR; rw [if_neg ht, if_neg (by simp)]; rfl)
        clear ht ht2 HGT hsl
        have hO := tgF_one ⟨xk, 0, 0⟩
        obtain ⟨F, hF⟩ : ∃ F, F = tgF ⟨xk, 0, 0⟩ := ⟨_, rfl⟩
        have H6 := Lib.hid (show FB w3 gl 56 3 F by rw [hF]; exact H3.out.var)
        rw [← hF] at hO
        have HO := Lib.hid hO
        have HF := Lib.hid hF
        clear hO hF
        go_wp2_with (first
          | (refine wpList_load_all rfl 56 _ rfl gl rfl 56 3 F _ H6.out Try.underlying56 rfl sizeTag ?_)
          | (refine wpList_store_all rfl 56 _ _ rfl gr 56 3 _ F rfl rfl H3.out.res sizeTag HO.out ?_; intro w7 h7 hT7 hs7))
        refine bodyPost_ret (result_seg rfl _ _ gr _ 3 _ _ rfl h7 Try.underlying56 rfl sizeTag) rfl (RdEnd.mk HG.out (by rw [HF.out]; rfl) (H3.out.rd.far H3.out.lr hT7) (H3.out.touch.own H3.out.nr hT7))
end Go.Proofs.Ytbomihdnnidelaa
