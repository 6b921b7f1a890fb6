/- Package deed: the small deed is made. Laid by wip/tools/mkdse.py. -/
import Derived.Test.YtbomihdnnidelaaDSd
namespace Go.Proofs.Ytbomihdnnidelaa
open Go.ChangeShapes Go.WideShapes Go.ChangeAt Go.RowKit
open Dee
set_option linter.unusedVariables false
set_option linter.unusedSimpArgs false
set_option maxRecDepth 100000
theorem zeroCon' : (Try.prog.info? 63).bind (fun i => i.zero.map Value.cells) = some (arr 3 (coF ⟨0, 0, 0⟩)) := by kernel_rfl
def sm0 : Nat → Value := clF false (fun _ => Tag.zero) (.slice none 0 0)
def sm4 : Nat → Value := upd (upd (upd (upd sm0 4 (.int .i64 3)) 7 (.int .i64 1)) 124 (.int .i64 1)) 123 (.int .i64 15)
theorem sm_done (v : Value) : arr 128 (upd sm4 127 v) = arr 128 (clF false smallG v) := by kernel_rfl
theorem sm_one {v : Value} (h : v.oneCell' = true) : ∀ q, q < 128 → (clF false smallG v q).oneCell' = true := clF_one _ _ _ h
def SmallEnd (w : World) (e : Ending) (w' : World) : Prop :=
  Below w.heap.size w w' ∧ ∃ vc b, e = .returned (.tuple #[.agg (arr 2 (deF (.slice none 0 0) vc)), .slice (some ⟨b, 0, none⟩) 28 28]) ∧ DeedAt w'.heap.size w' (.slice none 0 0) vc smallMd ∧ BytesAt w' (some ⟨b, 0, none⟩) smallB ∧ b < w'.heap.size
set_option maxHeartbeats 8000000 in
theorem small_any (w : World) : Calls Try.prog 27 #[] w (SmallEnd w) := by
  go_enter Try.func27, Try.ntmps27
  go_upto_region 2 with (first
    | (refine wpList_alloc_seg rfl 26 rfl 2 (deF (.slice none 0 0) (.slice none 0 0)) zeroDeed ?_; intro w1 h1 hB1 hs1)
    | (refine wpList_alloc_seg rfl 61 rfl 128 sm0 zeroClaim ?_; intro w2 h2 hB2 hs2))
  obtain ⟨ga, hga⟩ : ∃ g, g = w.heap.size := ⟨_, rfl⟩
  obtain ⟨gb, hgb⟩ : ∃ g, g = w1.heap.size := ⟨_, rfl⟩
  have hne : ga ≠ gb := by omega
  rw [← hgb, ← hga]
  rw [← hga] at h1
  rw [← hgb] at h2
  have HA0 := Lib.hid (h1.up hB2)
  have H0 := Lib.hid h2
  have HB0 := Lib.hid (hB1.trans (hB2.mono hB1.size))
  have HGE := Lib.hid (show w.heap.size ≤ ga ∧ w.heap.size ≤ gb by omega)
  clear h1 hB1 hs1 h2 hB2 hs2 hga hgb
  have k0 : w2.cell? ⟨gb, 4, none⟩ = some (.int .i64 0) := H0.out.cell 4 (by decide)
  have f0 : w2.frozen? ⟨gb, 4, none⟩ = false := H0.out.frozen 4
  go_upto_region 3 with fail
  obtain ⟨u0, hu⟩ : ∃ u, u = w2.setCell ⟨gb, 4, none⟩ (.int .i64 3) := ⟨_, rfl⟩
  have H1 := Lib.hid (show FB u0 gb 61 128 (upd sm0 4 (.int .i64 3)) by rw [hu]; exact H0.out.set_ 4 _)
  have HA1 := Lib.hid (show FB u0 ga 26 2 (deF (.slice none 0 0) (.slice none 0 0)) by rw [hu]; exact HA0.out.far (by simpa using hne) _)
  have HB1 := Lib.hid (show Below w.heap.size w u0 by rw [hu]; exact HB0.out.setCell HGE.out.2 _)
  rw [← hu]
  clear hu k0 f0 H0 HA0 HB0
  have k1 : u0.cell? ⟨gb, 7, none⟩ = some (.int .i64 0) := H1.out.cell 7 (by decide)
  have f1 : u0.frozen? ⟨gb, 7, none⟩ = false := H1.out.frozen 7
  go_upto_region 4 with fail
  obtain ⟨u1, hu⟩ : ∃ u, u = u0.setCell ⟨gb, 7, none⟩ (.int .i64 1) := ⟨_, rfl⟩
  have H2 := Lib.hid (show FB u1 gb 61 128 (upd (upd sm0 4 (.int .i64 3)) 7 (.int .i64 1)) by rw [hu]; exact H1.out.set_ 7 _)
  have HA2 := Lib.hid (show FB u1 ga 26 2 (deF (.slice none 0 0) (.slice none 0 0)) by rw [hu]; exact HA1.out.far (by simpa using hne) _)
  have HB2 := Lib.hid (show Below w.heap.size w u1 by rw [hu]; exact HB1.out.setCell HGE.out.2 _)
  rw [← hu]
  clear hu k1 f1 H1 HA1 HB1
  have k2 : u1.cell? ⟨gb, 124, none⟩ = some (.int .i64 0) := H2.out.cell 124 (by decide)
  have f2 : u1.frozen? ⟨gb, 124, none⟩ = false := H2.out.frozen 124
  go_upto_region 5 with fail
  obtain ⟨u2, hu⟩ : ∃ u, u = u1.setCell ⟨gb, 124, none⟩ (.int .i64 1) := ⟨_, rfl⟩
  have H3 := Lib.hid (show FB u2 gb 61 128 (upd (upd (upd sm0 4 (.int .i64 3)) 7 (.int .i64 1)) 124 (.int .i64 1)) by rw [hu]; exact H2.out.set_ 124 _)
  have HA3 := Lib.hid (show FB u2 ga 26 2 (deF (.slice none 0 0) (.slice none 0 0)) by rw [hu]; exact HA2.out.far (by simpa using hne) _)
  have HB3 := Lib.hid (show Below w.heap.size w u2 by rw [hu]; exact HB2.out.setCell HGE.out.2 _)
  rw [← hu]
  clear hu k2 f2 H2 HA2 HB2
  have k3 : u2.cell? ⟨gb, 123, none⟩ = some (.int .i64 0) := H3.out.cell 123 (by decide)
  have f3 : u2.frozen? ⟨gb, 123, none⟩ = false := H3.out.frozen 123
  go_upto_region 6 with fail
  obtain ⟨u3, hu⟩ : ∃ u, u = u2.setCell ⟨gb, 123, none⟩ (.int .i64 15) := ⟨_, rfl⟩
  have H4 := Lib.hid (show FB u3 gb 61 128 (upd (upd (upd (upd sm0 4 (.int .i64 3)) 7 (.int .i64 1)) 124 (.int .i64 1)) 123 (.int .i64 15)) by rw [hu]; exact H3.out.set_ 123 _)
  have HA4 := Lib.hid (show FB u3 ga 26 2 (deF (.slice none 0 0) (.slice none 0 0)) by rw [hu]; exact HA3.out.far (by simpa using hne) _)
  have HB4 := Lib.hid (show Below w.heap.size w u3 by rw [hu]; exact HB3.out.setCell HGE.out.2 _)
  rw [← hu]
  clear hu k3 f3 H3 HA3 HB3
  have H4 := Lib.hid (show FB u3 gb 61 128 sm4 from H4.out)
  go_upto_region 7 with (refine wpList_slice1_seg rfl 59 63 _ rfl 3 (coF ⟨3, 0, 100⟩) (coF ⟨0, 0, 0⟩) rfl Try.underlying59 zeroCon' sizeCon' (by decide) (by decide) ?_; intro w7 h7 hB7 hs7; have k7 : w7.cell? ⟨gb, 127, none⟩ = some (.slice none 0 0) := (H4.out.up hB7).cell 127 (by decide); have f7 : w7.frozen? ⟨gb, 127, none⟩ = false := (H4.out.up hB7).frozen 127)
  obtain ⟨gc, hgc⟩ : ∃ g, g = u3.heap.size := ⟨_, rfl⟩
  rw [← hgc] at h7 ⊢
  have hcb : gb ≠ gc := by have := H4.out.lt; omega
  obtain ⟨w8, hu⟩ : ∃ u, u = w7.setCell ⟨gb, 127, none⟩ (.slice (some ⟨gc, 0, none⟩) 1 1) := ⟨_, rfl⟩
  have H8 := Lib.hid (show FB w8 gb 61 128 (clF false smallG (.slice (some ⟨gc, 0, none⟩) 1 1)) by
    rw [hu]
    unfold FB
    rw [← sm_done]
    exact (H4.out.up hB7).set_ 127 _)
  have HA8 := Lib.hid (show FB w8 ga 26 2 (deF (.slice none 0 0) (.slice none 0 0)) by rw [hu]; exact (HA4.out.up hB7).far (by simpa using hne) _)
  have HC8 := Lib.hid (show FB w8 gc 63 3 (coF ⟨3, 0, 100⟩) by rw [hu]; exact h7.far (by simpa using fun e => hcb e.symm) _)
  have HB8 := Lib.hid (show Below w.heap.size w w8 by rw [hu]; exact (HB4.out.trans (hB7.mono HB4.out.size)).setCell HGE.out.2 _)
  have HNE := Lib.hid (show gc ≠ ga by have := HA4.out.lt; omega)
  rw [← hu]
  clear hu h7 hB7 hs7 hgc k7 f7 H4 HA4 HB4 hcb
  obtain ⟨F, hF⟩ : ∃ F, F = clF false smallG (.slice (some ⟨gc, 0, none⟩) 1 1) := ⟨_, rfl⟩
  have HO := Lib.hid (show ∀ q, q < 128 → (F q).oneCell' = true by rw [hF]; exact sm_one rfl)
  rw [← hF] at H8
  have HFF := Lib.hid hF
  clear hF
  go_wp2_with (first
    | (refine wpList_load_all rfl 61 _ rfl gb rfl 61 128 F _ H8.out Try.underlying61 rfl sizeClaim ?_)
    | (refine wpList_slice1_seg rfl 24 61 _ rfl 128 F (clF false (fun _ => Tag.zero) (.slice none 0 0)) rfl Try.underlying24 zeroClaim sizeClaim (by decide) (by decide) ?_; intro w9 h9 hB9 hs9)
    | (refine wpList_store_all rfl 26 _ _ rfl ga 26 2 _ (deF (.slice none 0 0) (.slice (some ⟨w8.heap.size, 0, none⟩) 1 1)) rfl rfl ((HA8.out.up hB9).alloc _) sizeDeed (deF_one rfl rfl) ?_; intro w10 h10 hT10 hs10))
  try simp only [Exit.inBlock, Exit.then]
  have q0 : w10.cell? ⟨ga, 0, none⟩ = some (.slice none 0 0) := h10.cell 0 (by decide)
  have q1 : w10.cell? ⟨ga, 1, none⟩ = some (.slice (some ⟨w8.heap.size, 0, none⟩) 1 1) := h10.cell 1 (by decide)
  have n9 : w8.heap.size ≠ ga := by have := HA8.out.lt; omega
  have n10 : w9.heap.size ≠ ga := by have := HA8.out.lt; omega
  have hbl : Below w.heap.size w w10 := (((HB8.out.trans (hB9.mono HB8.out.size)).alloc (Nat.le_trans HB8.out.size hB9.size) _).trans (hT10.below HGE.out.1 (Nat.le_trans (Nat.le_trans HB8.out.size hB9.size) (by simp))))
  have hcl : FB w10 w8.heap.size 61 128 F := (h9.alloc _).touch hT10 n9
  have hco : FB w10 gc 63 3 (coF ⟨3, 0, 100⟩) := ((HC8.out.up hB9).alloc _).touch hT10 HNE.out
  have hby : ByteBlk w10 (w8.heap.size + 1) smallB := by
    rw [← hs9]
    exact (hT10.block w9.heap.size (by simp) n10).trans (ByteBlk.new w9 smallB)
  refine bodyPost_ret (v := .tuple #[.agg (arr 2 (deF (.slice none 0 0) (.slice (some ⟨w8.heap.size, 0, none⟩) 1 1))), .slice (some ⟨w8.heap.size + 1, 0, none⟩) 28 28]) ?_ rfl ?_
  · simp [results, Try.results27, go_sem, q0, q1]
    rfl
  · refine ⟨hbl, _, _, rfl, ?_, hby.at_, hby.lt⟩
    refine ⟨⟨none, 0, 0, rfl, Lib.hid rfl, fun hp => absurd hp (by decide)⟩, ⟨_, 1, 1, [(⟨false, smallG, [⟨3, 0, 100⟩]⟩, .slice (some ⟨gc, 0, none⟩) 1 1)], rfl, Lib.hid rfl, rfl, fun _ => ⟨_, 0, rfl, hcl.lt, fun j a hj k hk => ?_⟩, fun p hp => ?_⟩⟩
    · cases j with
      | zero =>
        injection hj with hj
        subst hj
        rw [show 0 + 0 * 128 + k = k by omega, hcl.cell k hk, HFF.out]
        rfl
      | succ j => cases hj
    · obtain rfl := List.mem_singleton.1 hp
      refine ⟨_, 1, 1, rfl, Lib.hid rfl, ⟨by decide, by decide⟩, fun _ => ⟨_, 0, rfl, hco.lt, fun j a hj k hk => ?_⟩⟩
      cases j with
      | zero =>
        injection hj with hj
        subst hj
        rw [show 0 + 0 * 3 + k = k by omega, hco.cell k hk]
      | succ j => cases hj
end Go.Proofs.Ytbomihdnnidelaa
