/- Package pack: what every program answers that is one. -/
import Derived.Test.YtkfcfoidaalnlaaPkU
namespace Go.Proofs.Ytkfcfoidaalnlaa.Pak
open Go.ChangeShapes Go.WideShapes Go.ChangeAt Go.RowKit
set_option linter.unusedVariables false
set_option linter.unusedSimpArgs false
set_option maxRecDepth 100000
def k0 : Pk := ⟨1, 258, [7], [], []⟩
def k0L : List Int := encW k0
theorem k0_len : k0L.length = 21 := by kernel_rfl
theorem k0_sizes : sizesE 1 258 [] 1 = 0 := by kernel_rfl
theorem k0_enc : encE k0 = 0 := by
  unfold encE
  rw [if_neg (by rw [show sizesE k0.lo k0.hi k0.tabs k0.data.length = 0 from k0_sizes]; simp), if_neg (by rw [show (encW k0).length = 21 from k0_len]; decide)]
theorem k0_dec : decP k0L = .ok k0 := back k0_enc
theorem k0_at : k0L[8]? = some 1 ∧ k0L[10]? = some 2 ∧ k0L[16]? = some 7 := ⟨by kernel_rfl, by kernel_rfl, by kernel_rfl⟩
theorem k0_bytes : Bytes k0L := enc_bytes (by intro x hx; simp [k0] at hx; unfold IsB; omega) Bytes.nil
theorem k0_pkAt (w : World) : PkAt (w.alloc (.cells #[.int .u8 7] 5)) (.slice (some ⟨w.heap.size, 0, none⟩) 1 1) (.slice none 0 0) (.slice none 0 0) k0 :=
  ⟨⟨_, 1, 1, rfl, ⟨Lib.hid rfl, Nat.le_refl _, bytes_box w 7, fun b off e => by injection e with e; injection e with e1; subst e1; simp⟩⟩,
   ⟨none, 0, 0, rfl, ⟨Lib.hid rfl, Nat.le_refl _, fun hp => absurd hp (by simp [k0])⟩⟩,
   ⟨none, 0, 0, rfl, ⟨Lib.hid rfl, Nat.le_refl _, fun hp => absurd hp (by simp [k0]), fun b off e => by cases e⟩⟩⟩
set_option maxHeartbeats 8000000 in
theorem awake_any (w : World) : Calls Try.prog 5 #[] w (RetB w (.bool true)) := by
  go_enter Try.func5, Try.ntmps5
  have HEN := Lib.hid (encode_any (w.alloc (.cells #[.int .u8 7] 5)) k0 _ _ _ (k0_pkAt w) (by intro x hx; simp [k0] at hx; unfold IsB; omega) Bytes.nil (by simp [k0]) (by simp [k0]))
  have HB1 := Lib.hid (below_box w (.cells #[.int .u8 7] 5))
  obtain ⟨w1, hw1⟩ : ∃ u, u = w.alloc (.cells #[.int .u8 7] 5) := ⟨_, rfl⟩
  have hal : ∀ gs, gs = w.heap.size → True := fun _ _ => trivial
  rw [← hw1] at HEN HB1
  have HW1 := Lib.hid hw1
  clear hal hw1
  go_upto_region 2 with (go_at_call 8; rw [← HW1.out]; refine HEN.out.mono ?_; rintro e w2 ⟨hB2, v, rfl, hv⟩; rw [k0_enc, if_pos rfl] at hv; rw [k0_enc]; have HO := Lib.hid hv; have HB2 := Lib.hid (HB1.out.trans (hB2.mono HB1.out.size)); clear hv hB2; obtain ⟨A, n, c, rfl, hSl⟩ := own_full HO.out; have HSl := Lib.hid hSl; clear hSl)
  obtain rfl : n = 21 := by rw [← HSl.out.len.out]; exact k0_len
  obtain ⟨b, off, rfl, hbl, hcell⟩ := HSl.out.byt (by rw [show (encW k0).length = 21 from k0_len]; decide)
  have hc := HSl.out.cap
  have c8 : w2.cell? ⟨b, off + 8, none⟩ = some (.int .u8 1) := by rw [hcell 8 (by rw [show (encW k0).length = 21 from k0_len]; decide)]; rw [show (encW k0)[8]? = some 1 from k0_at.1]; rfl
  have c10 : w2.cell? ⟨b, off + 10, none⟩ = some (.int .u8 2) := by rw [hcell 10 (by rw [show (encW k0).length = 21 from k0_len]; decide)]; rw [show (encW k0)[10]? = some 2 from k0_at.2.1]; rfl
  have c16 : w2.cell? ⟨b, off + 16, none⟩ = some (.int .u8 7) := by rw [hcell 16 (by rw [show (encW k0).length = 21 from k0_len]; decide)]; rw [show (encW k0)[16]? = some 7 from k0_at.2.2]; rfl
  have HDE := Lib.hid (decode_any w2 (some ⟨b, off, none⟩) 21 c (encW k0) HSl.out k0_bytes (by decide))
  rw [show decP (encW k0) = .ok k0 from k0_dec] at HDE
  clear hcell HEN HW1
  go_upto_region 4 with (go_at_call 13; refine (num_errno _ _).mono ?_; rintro e u ⟨rfl, rfl⟩)
  clear c8 c10 c16 hc
  go_upto_region 5 with (first
    | (go_at_call 20; refine HDE.out.mono ?_; rintro e w3 ⟨hB3, vd, vt, vc, rfl, hd, ht, hc⟩)
    | (refine wpList_alloc_seg rfl 25 rfl 5 zeroPkF zeroPk ?_; intro w4 h4 hB4 hs4)
    | (refine wpList_store_all rfl 25 _ _ rfl w3.heap.size 25 5 _ (pkF k0.lo k0.hi vd vt vc) rfl rfl h4 sizePk (pkF_one (ownB_one hd) (ownT_form ht) (ownB_one hc)) ?_; intro w5 h5 hT5 hs5))
  obtain ⟨g, hg⟩ : ∃ g, g = w3.heap.size := ⟨_, rfl⟩
  have hb5 : Below w3.heap.size w3 w5 := hB4.trans (hT5.below (Nat.le_refl _) hB4.size)
  rw [← hg] at h5 ⊢
  obtain ⟨Ad, nd, cd, hvd, hsd⟩ := own_full hd
  obtain ⟨Ac, nc, cc, hvc, hsc⟩ := own_full hc
  have hnd : nd = 1 := by rw [← hsd.len.out]; rfl
  have hnc : nc = 0 := by rw [← hsc.len.out]; rfl
  have x1 : w5.cell? ⟨g, 1, none⟩ = some (.int .i64 258) := h5.cell 1 (by decide)
  have x2 : w5.cell? ⟨g, 2, none⟩ = some (.slice Ad 1 cd) := by rw [h5.cell 2 (by decide), ← hnd, ← hvd]; rfl
  have x4 : w5.cell? ⟨g, 4, none⟩ = some (.slice Ac 0 cc) := by rw [h5.cell 4 (by decide), ← hnc, ← hvc]; rfl
  have HB5 := Lib.hid ((HB2.out.trans (hB3.mono HB2.out.size)).trans (hb5.mono (Nat.le_trans HB2.out.size hB3.size)))
  clear hB3 hd ht hc h4 hB4 hs4 h5 hT5 hs5 hg hb5 hvd hvc hsd hsc hnd hnc
  go_wp2_with (go_at_call 13; refine (num_errno _ _).mono ?_; rintro e u ⟨rfl, rfl⟩)
  go_ret
  exact ⟨rfl, HB5.out⟩
end Go.Proofs.Ytkfcfoidaalnlaa.Pak
