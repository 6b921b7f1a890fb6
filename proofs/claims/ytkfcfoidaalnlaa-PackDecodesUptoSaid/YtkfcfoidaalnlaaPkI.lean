/- Package pack: Encode. -/
import Derived.Test.YtkfcfoidaalnlaaPkH
namespace Go.Proofs.Ytkfcfoidaalnlaa.Pak
open Go.ChangeShapes Go.WideShapes Go.ChangeAt Go.RowKit
set_option linter.unusedVariables false
set_option linter.unusedSimpArgs false
set_option maxRecDepth 100000
def secP (x : Int × List Int) : List Int := le x.1 1 ++ (le x.2.length 3 ++ x.2)
theorem secP_sec (k : Int) (h : 0 ≤ k ∧ k < 256) (c : List Int) : (if full (k, c) = true then secP (k, c) else []) = sec k c := by
  unfold full secP sec
  by_cases e : c = []
  · subst e; rfl
  · simp only [e, decide_false, Bool.not_false, if_true, if_false]
    show k % 256 :: (le c.length 3 ++ c) = _
    rw [Int.emod_eq_of_lt h.1 h.2]
theorem flat_filter (L : List (Int × List Int)) : (L.filter full).flatMap secP = L.flatMap fun x => if full x = true then secP x else [] := by
  induction L with
  | nil => rfl
  | cons x t ih =>
    rw [List.filter_cons, List.flatMap_cons, ← ih]
    split
    · rw [List.flatMap_cons]
    · rfl
theorem flat_secS {w : World} : ∀ l : List Sc, (∀ s ∈ l, Sl w s.A s.n s.c s.L) → l.flatMap secS = (l.map fun s => (s.kind, s.L)).flatMap secP
  | [], _ => rfl
  | s :: t, h => by
    rw [List.flatMap_cons, List.map_cons, List.flatMap_cons, flat_secS t fun x hx => h x (by simp [hx])]
    unfold secS secP
    rw [(h s (by simp)).len.out]
theorem szs_len {w : World} : ∀ l : List Sc, (∀ s ∈ l, Sl w s.A s.n s.c s.L) → szs l = (l.flatMap secS).length
  | [], _ => rfl
  | s :: t, h => by
    rw [szs_cons, List.flatMap_cons, List.length_append, szs_len t fun x hx => h x (by simp [hx])]
    unfold secS
    rw [List.length_append, List.length_append, le_len, le_len, (h s (by simp)).len.out]
    omega
theorem body_secs {w : World} {k : Pk} {l : List Sc} (h : ∀ s ∈ l, Sl w s.A s.n s.c s.L) (e : l.map (fun s => (s.kind, s.L)) = (list4 k).filter full) : bodyS l = bodyW k ∧ 8 + szs l = (encW k).length := by
  have h1 : l.flatMap secS = sec 1 (le k.lo 2 ++ le k.hi 2) ++ (sec 2 (tabB k.tabs) ++ (sec 3 k.data ++ sec 4 k.code)) := by
    rw [flat_secS l h, e, flat_filter]
    unfold list4
    simp only [List.flatMap_cons, List.flatMap_nil, List.append_nil]
    rw [secP_sec 1 (by decide), secP_sec 2 (by decide), secP_sec 3 (by decide), secP_sec 4 (by decide)]
  have h2 : bodyS l = bodyW k := by unfold bodyS bodyW; rw [h1]
  refine ⟨h2, ?_⟩
  rw [szs_len l h, enc_len, ← h2]
  unfold bodyS
  rw [List.length_append]
  show 8 + _ = 4 + _ + 4
  omega
theorem secs_bytes {k : Pk} {l : List Sc} (hd : Bytes k.data) (hc : Bytes k.code) (e : l.map (fun s => (s.kind, s.L)) = (list4 k).filter full) : ∀ s ∈ l, Bytes s.L := by
  intro s hs
  have h1 : (s.kind, s.L) ∈ (list4 k).filter full := by rw [← e]; exact List.mem_map.2 ⟨s, hs, rfl⟩
  have h2 := (List.mem_filter.1 h1).1
  unfold list4 at h2
  simp only [List.mem_cons, List.not_mem_nil, or_false, Prod.mk.injEq] at h2
  rcases h2 with ⟨_, e⟩ | ⟨_, e⟩ | ⟨_, e⟩ | ⟨_, e⟩
  · rw [e]; exact (le_bytes _ _).app (le_bytes _ _)
  · rw [e]; exact tabB_bytes _
  · rw [e]; exact hd
  · rw [e]; exact hc
theorem secs_small {k : Pk} {w : World} {l : List Sc} (h0 : sizesE k.lo k.hi k.tabs k.data.length = 0) (hc : k.code.length ≤ 140737488355328) (h : ∀ s ∈ l, Sl w s.A s.n s.c s.L) (e : l.map (fun s => (s.kind, s.L)) = (list4 k).filter full) : ∀ s ∈ l, s.n ≤ 140737488355328 := by
  intro s hs
  obtain ⟨_, _, _, ht, _, hd⟩ := sizes_zero h0
  have h1 : (s.kind, s.L) ∈ (list4 k).filter full := by rw [← e]; exact List.mem_map.2 ⟨s, hs, rfl⟩
  have h2 := (List.mem_filter.1 h1).1
  have h3 := (h s hs).len.out
  unfold list4 at h2
  simp only [List.mem_cons, List.not_mem_nil, or_false, Prod.mk.injEq] at h2
  rcases h2 with ⟨_, e⟩ | ⟨_, e⟩ | ⟨_, e⟩ | ⟨_, e⟩
  · rw [← h3, e, lens_len]; decide
  · rw [← h3, e, tabB_len]; omega
  · rw [← h3, e]; omega
  · rw [← h3, e]; exact hc
theorem OwnB_base {w : World} {base base' : Nat} {v : Value} {L : List Int} (h : OwnB w base v L) (hb : base' ≤ base) : OwnB w base' v L := by
  refine ⟨h.1, ?_⟩
  rcases h.2 with h1 | ⟨g, cap, cur, hv, hg, h1⟩
  · exact .inl h1
  · exact .inr ⟨g, cap, cur, hv, by omega, h1⟩
def Encoded (w : World) (k : Pk) (e : Ending) (w' : World) : Prop :=
  Below w.heap.size w w' ∧ ∃ v, e = .returned (.tuple #[v, .int .i64 (encE k)]) ∧ (if encE k = 0 then OwnB w' w.heap.size v (encW k) else v = .slice none 0 0)
theorem sizePk : (Try.prog.info? 25).map (·.size) = some 5 := by kernel_rfl
set_option maxHeartbeats 4000000 in
theorem encode_any (w : World) (k : Pk) (vd vt vc : Value) (hk : PkAt w vd vt vc k) (hd : Bytes k.data) (hc : Bytes k.code) (hcl : k.code.length ≤ 140737488355328) (htl : k.tabs.length ≤ 1152921504606846976) :
    Calls Try.prog 8 #[.agg (arr 5 (pkF k.lo k.hi vd vt vc))] w (Encoded w k) := by
  have HP := Lib.hid hk
  have HD := Lib.hid hd
  have HC := Lib.hid hc
  have HCL := Lib.hid hcl
  have HTL := Lib.hid htl
  obtain ⟨⟨Ad, nd, cd, rfl, hDa⟩, ⟨At, nt, ct, rfl, hTb⟩, Ac, nc, cc, rfl, hCo⟩ := hk
  have HND := Lib.hid hDa.len.out
  have HTB := Lib.hid hTb
  obtain ⟨lo, hi, data, tabs, code⟩ := k
  simp only at HP HD HC HCL HTL HND HTB ⊢
  clear hd hc hcl htl hDa hTb hCo
  obtain ⟨T, hT⟩ : ∃ T, T = pkF lo hi (.slice Ad nd cd) (.slice At nt ct) (.slice Ac nc cc) := ⟨_, rfl⟩
  rw [← hT]
  have HTT := Lib.hid hT
  clear hT
  go_enter Try.func8, Try.ntmps8
  go_upto_region 1 with (refine wpList_box_seg rfl _ (.tmp 0) rfl 5 T rfl ?_; intro w1 h1 hB1 hs1)
  obtain ⟨gk, hgk⟩ : ∃ gk, gk = w.heap.size := ⟨_, rfl⟩
  rw [← hgk] at h1 ⊢
  have x0 : w1.cell? ⟨gk, 0, none⟩ = some (.int .i64 lo) := by rw [h1.cell 0 (by decide), HTT.out]; rfl
  have x1 : w1.cell? ⟨gk, 1, none⟩ = some (.int .i64 hi) := by rw [h1.cell 1 (by decide), HTT.out]; rfl
  have x2 : w1.cell? ⟨gk, 2, none⟩ = some (.slice Ad nd cd) := by rw [h1.cell 2 (by decide), HTT.out]; rfl
  have x3 : w1.cell? ⟨gk, 3, none⟩ = some (.slice At nt ct) := by rw [h1.cell 3 (by decide), HTT.out]; rfl
  have HF1 := Lib.hid h1
  have HB1 := Lib.hid hB1
  clear h1 hB1 hs1 hgk
  obtain ⟨ee, hee⟩ : ∃ ee, ee = sizesE lo hi tabs nd := ⟨_, rfl⟩
  have HEE := Lib.hid hee
  have HWR := Lib.hid (wrong_any w1 lo hi At Ad nt ct nd cd tabs HTB.out.len.out (by have := HTB.out.len.out; have := HTL.out; omega) (HTB.out.row.below HB1.out))
  rw [← hee] at HWR
  clear hee
  go_upto_region 2 with (go_at_call 22; refine HWR.out.mono ?_; rintro e w2 ⟨rfl, hB2⟩)
  have HF2 := Lib.hid (HF1.out.up hB2)
  have HB2 := Lib.hid (HB1.out.trans (hB2.mono HB1.out.size))
  clear hB2 HF1 HB1 x0 x1 x2 x3 HWR
  by_cases h0 : ee = 0
  · have t0 : (ee != 0) = false := by rw [h0]; rfl
    have HSZ := Lib.hid (show sizesE lo hi tabs data.length = 0 by rw [HND.out, ← HEE.out, h0])
    clear h0 HEE
    have HT8 := Lib.hid (sizes_zero HSZ.out).2.2.2.1
    go_upto_region 5 with (first
      | (refine wpList_load_all rfl 25 _ rfl gk rfl 25 5 T _ HF2.out Try.underlying25 rfl sizePk ?_)
      | (go_at_call 23; rw [HTT.out]; refine (sections_any w2 ⟨lo, hi, data, tabs, code⟩ _ _ _ (HP.out.up HB2.out) HT8.out).mono ?_; rintro e w3 ⟨A3, m3, c3, l, rfl, hl, hm3, hrow, hmap, hsl, hB3⟩; rw [← HTT.out]))
    have HL := hl
    have HROW := Lib.hid hrow
    have HMAP := Lib.hid hmap
    have HSL := Lib.hid hsl
    have HBS := Lib.hid (body_secs hsl hmap)
    have HSM := Lib.hid (secs_small (k := ⟨lo, hi, data, tabs, code⟩) HSZ.out HCL.out hsl hmap)
    have HBY := Lib.hid (secs_bytes (k := ⟨lo, hi, data, tabs, code⟩) HD.out HC.out hmap)
    have HB3 := Lib.hid (HB2.out.trans (hB3.mono HB2.out.size))
    clear hl hrow hmap hsl hB3 HF2 HB2
    obtain ⟨z, hz⟩ : ∃ z, z = 8 + szs l := ⟨_, rfl⟩
    have HZ := Lib.hid hz
    have hzb : z ≤ 1000000000000000 := by have := szs_le l HSM.out; have := HL.out; omega
    have HSI := Lib.hid (size_any w3 A3 m3 c3 l HL hm3 HROW.out HSM.out)
    rw [← hz] at HSI
    clear hz
    go_upto_region 6 with (go_at_call 24; refine HSI.out.mono ?_; rintro e w4 ⟨rfl, hB4⟩)
    have HB4 := Lib.hid (HB3.out.trans (hB4.mono HB3.out.size))
    have HROW4 := Lib.hid (HROW.out.below hB4)
    have HSL4 := Lib.hid (fun s hs => ((HSL.out s hs).up hB4))
    clear hB4 HSI HROW HSL HB3
    by_cases hbig : 131072 < z
    · have t1 : decide (131072 < (z : Int)) = true := decide_eq_true (by omega)
      have HENC := Lib.hid (show encE ⟨lo, hi, data, tabs, code⟩ = 2 by
        unfold encE
        rw [if_neg (by rw [HSZ.out]; simp), if_pos (by rw [← HBS.out.2, ← HZ.out]; exact hbig)])
      clear hbig
      go_wp2_with fail
      go_ret2
      exact ⟨HB4.out, _, by rw [HENC.out]; rfl, by rw [HENC.out, if_neg (by decide)]; rfl⟩
    · have t1 : decide (131072 < (z : Int)) = false := decide_eq_false (by omega)
      have HENC := Lib.hid (show encE ⟨lo, hi, data, tabs, code⟩ = 0 by
        unfold encE
        rw [if_neg (by rw [HSZ.out]; simp), if_neg (by rw [← HBS.out.2, ← HZ.out]; exact hbig)])
      have hz2 : z ≤ 131072 := by omega
      clear hbig hzb
      go_wp2_with (go_at_call 25; refine (written_any w4 A3 m3 c3 l z HL hm3 HROW4.out (fun s hs => ⟨HSL4.out s hs, HBY.out s hs⟩) hz2 (by rw [HBS.out.1]; have h1 := HBS.out.2; have h2 := enc_len ⟨lo, hi, data, tabs, code⟩; have := HZ.out; omega)).mono ?_; rintro e w5 ⟨v5, rfl, hO5, hB5⟩)
      have HO5 := Lib.hid hO5
      have HB5 := Lib.hid hB5
      clear hO5 hB5
      obtain ⟨A5, n5, c5, hv5, -⟩ := own_full HO5.out
      subst hv5
      go_ret2
      refine ⟨HB4.out.trans (HB5.out.mono HB4.out.size), _, by rw [HENC.out]; rfl, ?_⟩
      rw [if_pos HENC.out]
      have h6 := HO5.out
      rw [HBS.out.1] at h6
      exact OwnB_base h6 HB4.out.size
  · have t0 : (ee != 0) = true := by rw [bne_iff_ne]; exact h0
    have HENC := Lib.hid (show encE ⟨lo, hi, data, tabs, code⟩ = ee by
      unfold encE
      rw [if_pos (by rw [HND.out, ← HEE.out]; exact h0), HND.out, ← HEE.out])
    have HNZ := Lib.hid h0
    clear h0 HEE
    go_wp2_with fail
    go_ret2
    exact ⟨HB2.out, _, by rw [HENC.out]; rfl, by rw [HENC.out, if_neg HNZ.out]; rfl⟩
end Go.Proofs.Ytkfcfoidaalnlaa.Pak
