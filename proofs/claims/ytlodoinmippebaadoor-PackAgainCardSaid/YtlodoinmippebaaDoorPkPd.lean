/- Package pack: Of and Program. Laid by wip/tools/mkpkpd.py. -/
import Derived.Test.YtlodoinmippebaaDoorPkPc
namespace Go.Proofs.YtlodoinmippebaaDoor.Pak
open Go.ChangeShapes Go.WideShapes Go.ChangeAt Go.RowKit
open Cod
set_option linter.unusedVariables false
set_option linter.unusedSimpArgs false
set_option maxRecDepth 100000
section
variable {P : Program} {ops : Array Oper} {Q : Exit → Act → World → Prop} {md : Region.Mode} {S S' : World → Prop}
/-- the condition of a region that draws may be made stronger midway -/
theorem wpAnyH_stronger (h : ∀ w, S' w → S w) : ∀ (fuel : Nat) (listed : Array Bool) (a : Act) (w : World), wpAnyH P md ops Q S' fuel listed a w → wpAnyH P md ops Q S fuel listed a w
  | 0, _, _, _, k => k
  | fuel + 1, _, _, _, k => ⟨k.1, fun i hi => wpOp_mono (fun a' w' k' => ⟨h _ k'.1, wpAnyH_stronger h fuel _ a' w' k'.2⟩) (k.2 i hi)⟩
end
def CopEndT (w : World) (L : List (Int × Int)) (e : Ending) (w' : World) : Prop := ∃ v, e = .returned v ∧ OwnR 69 2 tabF w' w.heap.size v L ∧ Below w.heap.size w w'
set_option maxHeartbeats 2000000 in
theorem copiedT_any (w : World) (A : Option Addr) (n c : Nat) (L : List (Int × Int)) (h : Tb w A n c L) (hn : n ≤ 8796093022208) :
    Calls Tryd.prog 38 #[.slice A n c] w (CopEndT w L) := by
  have HS := Lib.hid h
  clear h
  go_enter Tryd.func38, Tryd.ntmps38
  by_cases h0 : n = 0
  · subst h0
    have HL := Lib.hid (show L = [] from List.eq_nil_of_length_eq_zero HS.out.len.out)
    go_wp2_with fail
    go_ret
    exact ⟨_, rfl, by rw [HL.out]; exact OwnR.nil _ _ _ _ _, Below.refl _ _⟩
  · have t0 : ((n : Int) == 0) = false := by rw [beq_eq_false_iff_ne]; omega
    have t0' : ((n : Int) = 0) = False := by simp; omega
    obtain ⟨b, off, rfl, hbl, hcell⟩ := HS.out.row (by have := HS.out.len.out; omega)
    have hmk := run_make_seg (P := Tryd.prog) w 23 69 2 16 (tabF (0, 0)) n Tryd.underlying23 infoT (by decide) (by omega) (by omega)
    have hb1 := below_box w (.cells (arr (n * 2) fun q => tabF (0, 0) (q % 2)) 69)
    have hf1 := FB.new w 69 (n * 2) (fun q => tabF (0, 0) (q % 2))
    obtain ⟨w1, hw1⟩ : ∃ w1, w1 = w.alloc (.cells (arr (n * 2) fun q => tabF (0, 0) (q % 2)) 69) := ⟨_, rfl⟩
    rw [← hw1] at hmk hb1 hf1
    have HF := Lib.hid hf1
    have HB := Lib.hid hb1
    have HC := Lib.hid (show ∀ q, q < n * 2 → w1.cell? ⟨b, off + q, none⟩ = some (tabF (L[q / 2]?.getD (0, 0)) (q % 2)) from fun q hq => by
      have hq2 : q / 2 < L.length := by have := HS.out.len.out; omega
      have hg := hcell (q / 2) _ (List.getElem?_eq_getElem hq2) (q % 2) (Nat.mod_lt _ (by decide))
      rw [show off + q / 2 * 2 + q % 2 = off + q by omega] at hg
      rw [List.getElem?_eq_getElem hq2]
      exact (cell_same (hb1.block b hbl) _).trans hg)
    clear hw1 hf1 hb1 hcell h0
    go_wp2_with (refine wpList_copy_cells rfl (.tmp 10) (.tmp 11) 23 23 rfl 69 2 w.heap.size 0 n n b off n c n 69 (n * 2) _ (fun q => tabF (L[q / 2]?.getD (0, 0)) (q % 2)) rfl rfl Tryd.underlying23 sizeTab (Nat.min_self _) HF.out HC.out (by omega) (fun q _ => tabF_one _ _ (Nat.mod_lt _ (by decide))) ?_; intro w2 h2 hT2 hs2)
    go_ret
    refine ⟨_, rfl, (own_of_fb n HS.out.len.out h2 (Nat.le_refl _) (by unfold maxLen; omega) fun j x hj k hk => ?_), HB.out.trans (hT2.below (Nat.le_refl _) HB.out.size)⟩
    have hjn : j < n := by
      rcases Nat.lt_or_ge j L.length with h1 | h1
      · have := HS.out.len.out; omega
      · rw [List.getElem?_eq_none h1] at hj; cases hj
    unfold updR
    rw [if_pos (by omega), show j * 2 + k - 0 = j * 2 + k by omega]
    show tabF (L[(j * 2 + k) / 2]?.getD (0, 0)) ((j * 2 + k) % 2) = _
    rw [show (j * 2 + k) / 2 = j by omega, show (j * 2 + k) % 2 = k by omega, hj]
    rfl
theorem OwnR.form_row {w : World} {base m c : Nat} {A : Option Addr} {α : Type} {e : TypeId} {s : Nat} {f : α → Nat → Value} {l : List α} (h : OwnR e s f w base (.slice A m c) l) : RowsAt w A s f l := by
  obtain ⟨A', m', c', hv, -, -, hr, -⟩ := OwnR.form h
  injection hv with h1 h2 h3
  subst h1
  exact hr
theorem ownR_one {α : Type} {e : TypeId} {s : Nat} {f : α → Nat → Value} {w : World} {base : Nat} {v : Value} {l : List α} (h : OwnR e s f w base v l) : v.oneCell' = true := by
  obtain ⟨A, m, c, e, _⟩ := h.form
  rw [e]; rfl
theorem unit_at {W : World} {N j : Nat} {M : List Ins} (h : IntBlk W N (unitsL M)) (hj : j ≤ M.length) : W.cell? ⟨N, j, none⟩ = some (.int .i64 (uAt M j)) := by
  rw [cell_of_row W N j _ _ (0, 0) h]
  unfold unitsL
  simp [List.getElem?_map, List.getElem?_range (show j < M.length + 1 by omega)]
theorem IntBlk.lt' {W : World} {N : Nat} {L : List Int} (h : IntBlk W N L) : N < W.heap.size := by
  rcases Nat.lt_or_ge N W.heap.size with h1 | h1
  · exact h1
  · unfold IntBlk at h; rw [Array.getElem?_eq_none h1] at h; cases h
theorem sl_left {w : World} {A : Option Addr} {n c : Nat} {L : List Int} (h : Sl w A n c L) (hb : Bytes L) : Left w w.heap.size A n c L :=
  ⟨h.len.out, fun x hx => hb x hx, fun hp => by
    obtain ⟨b, off, e, hl, hc⟩ := h.byt (by rw [h.len.out]; exact hp)
    exact ⟨h.cap, b, off, e, hl, hc⟩⟩
structure OfS (t t' : TypeId) (gb gr : Nat) (X : Nat → Value) (W : World) : Prop where
  box : FB W gb t 5 X
  res : ∃ f, FB W gr t' 5 f
  ne : gb ≠ gr
theorem OfS.up {t t' : TypeId} {gb gr : Nat} {X : Nat → Value} {W W' : World} (h : OfS t t' gb gr X W) (hb : Below W.heap.size W W') : OfS t t' gb gr X W' := ⟨h.box.up hb, h.res.imp fun _ h1 => h1.up hb, h.ne⟩
structure OfRes (w w' : World) (p : Pg) (ck : Int × Int) (e : Ending) : Prop where
  yes : ck.2 = 0 → ∃ vd vt vc, e = .returned (.tuple #[.agg (arr 5 (pkF p.lo p.hi vd vt vc)), .int .i64 0, .int .i64 0]) ∧ OwnB w' w.heap.size vd p.data ∧ OwnR 69 2 tabF w' w.heap.size vt p.tabs ∧ OwnB w' w.heap.size vc (encB p.code)
  no : ck.2 ≠ 0 → e = .returned (.tuple #[.agg (arr 5 zeroPkF), .int .i64 ck.1, .int .i64 ck.2])
structure ProgRes (w w' : World) (pr : (Int × Int) × Pg) (e : Ending) : Prop where
  yes : pr.1.2 = 0 → ∃ vd vt vc, e = .returned (.tuple #[.agg (arr 5 (pkF pr.2.lo pr.2.hi vd vt vc)), .int .i64 0, .int .i64 0]) ∧ OwnB w' w.heap.size vd pr.2.data ∧ OwnR 69 2 tabF w' w.heap.size vt pr.2.tabs ∧ OwnR 71 8 insF w' w.heap.size vc pr.2.code
  no : pr.1.2 ≠ 0 → e = .returned (.tuple #[.agg (arr 5 zeroPkF), .int .i64 pr.1.1, .int .i64 pr.1.2])
theorem prog_same {k : Pk} (h : (progG k).1.2 = 0) : (progG k).2.lo = k.lo ∧ (progG k).2.hi = k.hi ∧ (progG k).2.data = k.data ∧ (progG k).2.tabs = k.tabs := by
  unfold progG at h ⊢
  by_cases h0 : sizesE k.lo k.hi k.tabs k.data.length = 0
  case neg => rw [if_pos h0] at h; exact absurd h h0
  rw [if_neg (by simpa using h0)] at h ⊢
  by_cases h1 : (D k.code 0 0).1 = 0
  case neg => rw [if_pos h1] at h; exact absurd h h1
  rw [if_neg (by simpa using h1)] at h ⊢
  by_cases h2 : (lostL (D k.code 0 0).2.2 k.data.length).2 = 0
  case neg => rw [if_pos h2] at h; exact absurd h h2
  rw [if_neg (by simpa using h2)]
  exact ⟨rfl, rfl, rfl, rfl⟩
theorem ownI_rows {w : World} {base : Nat} {v : Value} {L : List Ins} (h : OwnI w base v L) : OwnR 71 8 insF w base v L := h

set_option maxHeartbeats 8000000 in
theorem of_any (w : World) (g : Pg) (vd vt vc : Value) (hp : PgAt w vd vt vc g) (hs : SmallG g) (ht : Tabs w) :
    Calls Tryd.prog 19 #[.agg (arr 5 (pkF g.lo g.hi vd vt vc))] w fun e w' => Below w.heap.size w w' ∧ OfRes w w' g (checkG g) e := by
  have HCK := Lib.hid (fun (W : World) (hW : Below w.heap.size w W) => checkP_any W g vd vt vc (hp.up hW) hs)
  obtain ⟨⟨Ad, nd, cd, rfl, hD⟩, ⟨At, nt, ct, rfl, hT⟩, Ac, nc, cc, rfl, hC⟩ := hp
  have HD := Lib.hid hD
  have HT := Lib.hid hT
  have HC := Lib.hid hC
  have HTB := Lib.hid ht
  have HSM := Lib.hid hs
  have HN := Lib.hid (show nd ≤ 140737488355328 ∧ nt ≤ 8796093022208 from ⟨by have := hD.len.out; have := hs.data; omega, by have := hT.len.out; have := hs.tabs; omega⟩)
  obtain ⟨ck, hck⟩ : ∃ ck, ck = checkG g := ⟨_, rfl⟩
  rw [← hck] at HCK ⊢
  have HG := Lib.hid hck
  obtain ⟨lo, hi, data, tabs, code⟩ := g
  simp only at HCK HSM HD HT HC ⊢
  obtain ⟨X, hX⟩ : ∃ X, X = pkF lo hi (.slice Ad nd cd) (.slice At nt ct) (.slice Ac nc cc) := ⟨_, rfl⟩
  rw [← hX] at HCK ⊢
  have HX := Lib.hid hX
  obtain ⟨at_, er⟩ := ck
  simp only at HCK ⊢
  clear hX hD hT hC hs ht hck
  go_enter Tryd.func19, Tryd.ntmps19
  go_upto_region 1 with (first
    | (refine wpList_box_seg rfl _ (.tmp 0) rfl 5 X rfl ?_; intro w1 h1 hB1 hs1; clear hs1)
    | (refine wpList_alloc_seg rfl 25 rfl 5 zeroPkF zeroPk ?_; intro w2 h2 hB2 hs2))
  obtain ⟨gb, hgb⟩ : ∃ gb, gb = w.heap.size := ⟨_, rfl⟩
  obtain ⟨gr, hgr⟩ : ∃ gr, gr = w1.heap.size := ⟨_, rfl⟩
  rw [← hgb] at h1 ⊢
  rw [← hgr] at h2 ⊢
  have HB2 := Lib.hid (show Below w.heap.size w w2 from hB1.trans (hB2.mono hB1.size))
  have HS := Lib.hid (show OfS 33 25 gb gr X w2 from ⟨h1.up hB2, ⟨_, h2⟩, by have := h1.lt; omega⟩)
  have HGR := Lib.hid (show w.heap.size ≤ gr ∧ gr < w2.heap.size from ⟨by have := hB1.size; omega, h2.lt⟩)
  have HZ2 := Lib.hid (show FB w2 gr 25 5 zeroPkF from h2)
  clear h1 hB1 h2 hB2 hs2 hgb hgr
  have HCA := Lib.hid (show ∀ W, Below w2.heap.size w2 W → W.cell? ⟨gb, 0, none⟩ = some (.int .i64 lo) ∧ W.cell? ⟨gb, 1, none⟩ = some (.int .i64 hi) ∧ W.cell? ⟨gb, 2, none⟩ = some (.slice Ad nd cd) ∧ W.cell? ⟨gb, 3, none⟩ = some (.slice At nt ct) ∧ W.cell? ⟨gb, 4, none⟩ = some (.slice Ac nc cc) from fun W hW => by
    have h3 := HS.out.box.up hW
    rw [HX.out] at h3
    exact ⟨h3.cell 0 (by decide), h3.cell 1 (by decide), h3.cell 2 (by decide), h3.cell 3 (by decide), h3.cell 4 (by decide)⟩)
  go_upto_region 2 with (first
    | (refine wpList_load_all rfl 33 _ rfl gb rfl 33 5 X _ HS.out.box Tryd.underlying33 rfl sizePg ?_)
    | (go_at_call 20; refine (HCK.out w2 HB2.out).mono ?_; rintro e w3 ⟨rfl, hB3⟩))
  have HB32 := Lib.hid hB3
  have HB3 := Lib.hid (HB2.out.trans (hB3.mono HB2.out.size))
  have HS3 := Lib.hid (HS.out.up hB3)
  clear hB3 HCK
  by_cases h0 : er = 0
  case neg =>
    have t0 : (er != 0) = true := by rw [bne_iff_ne]; exact h0
    have HE := Lib.hid h0
    clear h0
    have hz := HZ2.out.up HB32.out
    go_wp2_with (refine wpList_store_all rfl 25 _ _ rfl gr 25 5 _ zeroPkF rfl rfl hz sizePk (pkF_one rfl rfl rfl) ?_; intro w9 h9 hT9 hs9)
    refine bodyPost_ret (result_ctt rfl _ _ _ _ gr _ 5 _ _ rfl h9 Tryd.underlying25 rfl sizePk rfl rfl) rfl ⟨HB3.out.trans (hT9.below HGR.out.1 HB3.out.size), ?_⟩
    exact ⟨fun h => absurd h HE.out, fun _ => rfl⟩
  subst h0
  obtain ⟨-, hk2, hk3, hk1⟩ := check_zero (p := ⟨lo, hi, data, tabs, code⟩) (by rw [← HG.out])
  simp only at hk2
  have HEN := Lib.hid (fun (W : World) (hW : Below w.heap.size w W) => encode_ok W Ac nc cc code HC.out.len.out (by have := HC.out.len.out; have := HSM.out.code; simp only at this; omega) (HC.out.up hW).row (HTB.out.below hW) hk2)
  have HK1 := Lib.hid (show at_ = 0 by rw [← hk1, ← HG.out])
  clear hk1 hk2 hk3
  obtain ⟨x0, x1, x2, x3, x4⟩ := HCA.out w3 HB32.out
  go_upto_region 5 with (go_at_call 30; refine (HEN.out w3 HB3.out).mono ?_; rintro e w4 ⟨v4, rfl, hO4, hB4⟩; obtain ⟨A5, n5, c5, rfl, -⟩ := own_full hO4)
  have HB42 := Lib.hid (HB32.out.trans (hB4.mono HB32.out.size))
  have HO4 := Lib.hid (OwnB_base (base' := w.heap.size) hO4 HB3.out.size)
  have HB4 := Lib.hid (HB3.out.trans (hB4.mono HB3.out.size))
  have HS4 := Lib.hid (HS3.out.up hB4)
  clear hB4 hO4 HEN x0 x1 x2 x3 x4 HS3 HB3 HB32
  go_upto_region 7 with fail
  refine wp_region_held_drew (S := fun W => OfS 33 25 gb gr X W) (by kernel_rfl) (HS4.out.up (below_drewN (Below.refl _ _) 1)) (fun hHeld => ?_)
  refine wpAnyH_take (i := 0) (oi := { dst := some 28, op := Op.fieldAddr 33 (Operand.tmp 1) 0, type := 0, pos := "pack.go:59", after := #[], guard := none }) (v := .pointer (some ⟨gb, 0, none⟩)) rfl (by kernel_rfl) (by kernel_rfl) (by kernel_rfl) (fun _ _ _ h => h) (Or.inl ⟨by rfl, ?_⟩) (by assumption) ?_
  · intro w hSw
    go_simp
  try simp only [Act.put, List.setIfInBounds_toArray, List.set_cons_zero, List.set_cons_succ]
  refine wpAnyH_take (i := 1) (oi := { dst := some 29, op := Op.load 3 (Operand.tmp 28), type := 3, pos := "pack.go:59", after := #[{ on := 0, ground := Ground.data }], guard := none }) (v := .int .i64 lo) rfl (by kernel_rfl) (by kernel_rfl) (by kernel_rfl) (fun _ _ _ h => h) (Or.inl ⟨by rfl, ?_⟩) (by assumption) ?_
  · intro w hSw
    have q0 : w.cell? ⟨gb, 0, none⟩ = some (.int .i64 lo) := by rw [hSw.box.cell 0 (by decide), HX.out]; rfl
    go_simp
  try simp only [Act.put, List.setIfInBounds_toArray, List.set_cons_zero, List.set_cons_succ]
  refine wpAnyH_take (i := 2) (oi := { dst := some 30, op := Op.fieldAddr 33 (Operand.tmp 1) 1, type := 0, pos := "pack.go:59", after := #[], guard := none }) (v := .pointer (some ⟨gb, 1, none⟩)) rfl (by kernel_rfl) (by kernel_rfl) (by kernel_rfl) (fun _ _ _ h => h) (Or.inl ⟨by rfl, ?_⟩) (by assumption) ?_
  · intro w hSw
    go_simp
  try simp only [Act.put, List.setIfInBounds_toArray, List.set_cons_zero, List.set_cons_succ]
  refine wpAnyH_take (i := 3) (oi := { dst := some 31, op := Op.load 3 (Operand.tmp 30), type := 3, pos := "pack.go:59", after := #[{ on := 2, ground := Ground.data }], guard := none }) (v := .int .i64 hi) rfl (by kernel_rfl) (by kernel_rfl) (by kernel_rfl) (fun _ _ _ h => h) (Or.inl ⟨by rfl, ?_⟩) (by assumption) ?_
  · intro w hSw
    have q0 : w.cell? ⟨gb, 1, none⟩ = some (.int .i64 hi) := by rw [hSw.box.cell 1 (by decide), HX.out]; rfl
    go_simp
  try simp only [Act.put, List.setIfInBounds_toArray, List.set_cons_zero, List.set_cons_succ]
  refine wpAnyH_take (i := 4) (oi := { dst := some 32, op := Op.fieldAddr 33 (Operand.tmp 1) 2, type := 0, pos := "pack.go:59", after := #[], guard := none }) (v := .pointer (some ⟨gb, 2, none⟩)) rfl (by kernel_rfl) (by kernel_rfl) (by kernel_rfl) (fun _ _ _ h => h) (Or.inl ⟨by rfl, ?_⟩) (by assumption) ?_
  · intro w hSw
    go_simp
  try simp only [Act.put, List.setIfInBounds_toArray, List.set_cons_zero, List.set_cons_succ]
  refine wpAnyH_take (i := 5) (oi := { dst := some 33, op := Op.load 22 (Operand.tmp 32), type := 22, pos := "pack.go:59", after := #[{ on := 4, ground := Ground.data }], guard := none }) (v := .slice Ad nd cd) rfl (by kernel_rfl) (by kernel_rfl) (by kernel_rfl) (fun _ _ _ h => h) (Or.inl ⟨by rfl, ?_⟩) (by assumption) ?_
  · intro w hSw
    have q0 : w.cell? ⟨gb, 2, none⟩ = some (.slice Ad nd cd) := by rw [hSw.box.cell 2 (by decide), HX.out]; rfl
    go_simp
  try simp only [Act.put, List.setIfInBounds_toArray, List.set_cons_zero, List.set_cons_succ]
  refine wpAnyH_take (i := 7) (oi := { dst := some 35, op := Op.fieldAddr 33 (Operand.tmp 1) 3, type := 0, pos := "pack.go:59", after := #[], guard := none }) (v := .pointer (some ⟨gb, 3, none⟩)) rfl (by kernel_rfl) (by kernel_rfl) (by kernel_rfl) (fun _ _ _ h => h) (Or.inl ⟨by rfl, ?_⟩) (by assumption) ?_
  · intro w hSw
    go_simp
  try simp only [Act.put, List.setIfInBounds_toArray, List.set_cons_zero, List.set_cons_succ]
  refine wpAnyH_take (i := 8) (oi := { dst := some 36, op := Op.load 23 (Operand.tmp 35), type := 23, pos := "pack.go:59", after := #[{ on := 7, ground := Ground.data }], guard := none }) (v := .slice At nt ct) rfl (by kernel_rfl) (by kernel_rfl) (by kernel_rfl) (fun _ _ _ h => h) (Or.inl ⟨by rfl, ?_⟩) (by assumption) ?_
  · intro w hSw
    have q0 : w.cell? ⟨gb, 3, none⟩ = some (.slice At nt ct) := by rw [hSw.box.cell 3 (by decide), HX.out]; rfl
    go_simp
  try simp only [Act.put, List.setIfInBounds_toArray, List.set_cons_zero, List.set_cons_succ]
  refine wpAnyH_take (i := 10) (oi := { dst := some 38, op := Op.move (Operand.tmp 5), type := 22, pos := "pack.go:59", after := #[], guard := none }) (v := .slice A5 n5 c5) rfl (by kernel_rfl) (by kernel_rfl) (by kernel_rfl) (fun _ _ _ h => h) (Or.inl ⟨by rfl, ?_⟩) (by assumption) ?_
  · intro w hSw
    go_simp
  try simp only [Act.put, List.setIfInBounds_toArray, List.set_cons_zero, List.set_cons_succ]
  refine wpAnyH_ready (rs := [6]) (by kernel_rfl) (by simp) ?_
  refine AllReadyH.cons (o := { dst := some 34, op := Op.call { callee := Callee.value (Operand.func 37), args := #[Operand.tmp 33], argTypes := #[22] }, type := 22, pos := "pack.go:59", after := #[{ on := 5, ground := Ground.data }], guard := none }) rfl ?_ ?_
  rotate_left
  · exact AllReadyH.nil
  intro K hK
  go_simp
  go_at_call 37
  refine (copied_any w4.drew Ad nd cd data ((HD.out.up HB4.out).up (below_drewN (Below.refl _ _) 1)) HN.out.1).mono ?_
  rintro e wa ⟨va, rfl, hOa, hBa⟩
  have HBa := Lib.hid (show Below w.heap.size w wa from (below_drewN HB4.out 1).trans (hBa.mono HB4.out.size))
  have HBka := Lib.hid (show Below w4.heap.size w4 wa from (below_drewN (Below.refl _ _) 1).trans hBa)
  have HSa := Lib.hid (hHeld.up hBa)
  have HOa := Lib.hid (OwnB_base (base' := w.heap.size) hOa HB4.out.size)
  clear hOa hBa hHeld
  obtain ⟨Aa, na, ca, rfl, -⟩ := own_full HOa.out
  go_simp
  refine hK.out _ _ HSa.out (fun hHeld => ?_)
  clear hK K
  try simp only [Act.put, List.setIfInBounds_toArray, List.set_cons_zero, List.set_cons_succ]
  refine wpAnyH_ready (rs := [9]) (by kernel_rfl) (by simp) ?_
  refine AllReadyH.cons (o := { dst := some 37, op := Op.call { callee := Callee.value (Operand.func 38), args := #[Operand.tmp 36], argTypes := #[23] }, type := 23, pos := "pack.go:59", after := #[{ on := 8, ground := Ground.data }, { on := 6, ground := Ground.chain }], guard := none }) rfl ?_ ?_
  rotate_left
  · exact AllReadyH.nil
  intro K hK
  go_simp
  go_at_call 38
  refine (copiedT_any wa At nt ct tabs (HT.out.up HBa.out) HN.out.2).mono ?_
  rintro e wb ⟨vb, rfl, hOb, hBb⟩
  have HBb := Lib.hid (show Below w.heap.size w wb from HBa.out.trans (hBb.mono HBa.out.size))
  have HBkb := Lib.hid (show Below w4.heap.size w4 wb from HBka.out.trans (hBb.mono HBka.out.size))
  have HSb := Lib.hid (HSa.out.up hBb)
  have HOb := Lib.hid (ownR_base (base' := w.heap.size) hOb HBa.out.size)
  have HOab := Lib.hid (ownB_up HOa.out hBb)
  clear hOb hBb hHeld HOa
  obtain ⟨Ab, nb, cb, rfl, -⟩ := HOb.out.form
  go_simp
  refine hK.out _ _ HSb.out (fun hHeld => ?_)
  clear hK K
  try simp only [Act.put, List.setIfInBounds_toArray, List.set_cons_zero, List.set_cons_succ]
  refine wpAnyH_take (i := 11) (oi := { dst := some 39, op := Op.build 25 #[(0, Operand.tmp 29), (1, Operand.tmp 31), (2, Operand.tmp 34), (3, Operand.tmp 37), (4, Operand.tmp 38)], type := 25, pos := "pack.go:59", after := #[{ on := 1, ground := Ground.data }, { on := 3, ground := Ground.data }, { on := 6, ground := Ground.data }, { on := 9, ground := Ground.data }, { on := 10, ground := Ground.data }], guard := none }) (v := .agg #[.int .i64 lo, .int .i64 hi, .slice Aa na ca, .slice Ab nb cb, .slice A5 n5 c5]) rfl (by kernel_rfl) (by kernel_rfl) (by kernel_rfl) (fun _ _ _ h => h) (Or.inl ⟨by rfl, ?_⟩) (by assumption) ?_
  · intro w hSw
    go_simp
  try simp only [Act.put, List.setIfInBounds_toArray, List.set_cons_zero, List.set_cons_succ]
  have HO5b := Lib.hid (ownB_up HO4.out HBkb.out)
  clear hHeld
  refine wpAnyH_ready (rs := [12]) (by kernel_rfl) (by simp) ?_
  refine AllReadyH.cons (o := { dst := none, op := Op.store 25 (Operand.tmp 2) (Operand.tmp 39), type := 0, pos := "pack.go:59", after := #[{ on := 11, ground := Ground.data }, { on := 9, ground := Ground.chain }, { on := 0, ground := Ground.phase }, { on := 1, ground := Ground.phase }, { on := 2, ground := Ground.phase }, { on := 3, ground := Ground.phase }, { on := 4, ground := Ground.phase }, { on := 5, ground := Ground.phase }, { on := 6, ground := Ground.phase }, { on := 7, ground := Ground.phase }, { on := 8, ground := Ground.phase }, { on := 9, ground := Ground.phase }, { on := 10, ground := Ground.phase }, { on := 11, ground := Ground.phase }], guard := none }) rfl ?_ ?_
  rotate_left
  · exact AllReadyH.nil
  intro K hK
  obtain ⟨fo, hfo⟩ := HSb.out.res
  refine step_store_seg (by rfl) 25 _ _ rfl gr 0 25 5 5 fo (pkF lo hi (.slice Aa na ca) (.slice Ab nb cb) (.slice A5 n5 c5)) rfl rfl hfo (by omega) sizePk (pkF_one rfl rfl rfl) ?_
  intro wc hc hTc hsc
  have Hc := Lib.hid (show FB wc gr 25 5 (pkF lo hi (.slice Aa na ca) (.slice Ab nb cb) (.slice A5 n5 c5)) from hc.congr fun q hq => by unfold updR; rw [if_pos (by omega), Nat.sub_zero])
  have HSc := Lib.hid (show OfS 33 25 gb gr X wc from ⟨HSb.out.box.touch hTc HSb.out.ne, ⟨_, Hc.out⟩, HSb.out.ne⟩)
  have HOac := Lib.hid (ownB_touch HOab.out hTc hfo (by decide))
  have HObc := Lib.hid (ownT_touch HOb.out hTc hfo (by decide))
  have HO5c := Lib.hid (ownB_touch HO5b.out hTc hfo (by decide))
  have HBc := Lib.hid (show Below w.heap.size w wc from HBb.out.trans (hTc.below HGR.out.1 HBb.out.size))
  clear hc hTc hsc hfo
  refine hK.out _ _ HSc.out (fun hHeld => ?_)
  clear hK K
  try simp only [Act.put, List.setIfInBounds_toArray, List.set_cons_zero, List.set_cons_succ]
  refine wpAnyH_take (i := 13) (oi := { dst := some 3, op := Op.assign (Operand.const (Value.int IntKind.i64 0)), type := 3, pos := "pack.go:59", after := #[{ on := 12, ground := Ground.chain }, { on := 0, ground := Ground.phase }, { on := 1, ground := Ground.phase }, { on := 2, ground := Ground.phase }, { on := 3, ground := Ground.phase }, { on := 4, ground := Ground.phase }, { on := 5, ground := Ground.phase }, { on := 6, ground := Ground.phase }, { on := 7, ground := Ground.phase }, { on := 8, ground := Ground.phase }, { on := 9, ground := Ground.phase }, { on := 10, ground := Ground.phase }, { on := 11, ground := Ground.phase }, { on := 12, ground := Ground.phase }], guard := none }) (v := .int .i64 0) rfl (by kernel_rfl) (by kernel_rfl) (by kernel_rfl) (fun _ _ _ h => h) (Or.inl ⟨by rfl, ?_⟩) (by assumption) ?_
  · intro w hSw
    go_simp
  try simp only [Act.put, List.setIfInBounds_toArray, List.set_cons_zero, List.set_cons_succ]
  refine wpAnyH_take (i := 14) (oi := { dst := some 4, op := Op.assign (Operand.const (Value.int IntKind.i64 0)), type := 34, pos := "pack.go:59", after := #[{ on := 13, ground := Ground.chain }, { on := 0, ground := Ground.phase }, { on := 1, ground := Ground.phase }, { on := 2, ground := Ground.phase }, { on := 3, ground := Ground.phase }, { on := 4, ground := Ground.phase }, { on := 5, ground := Ground.phase }, { on := 6, ground := Ground.phase }, { on := 7, ground := Ground.phase }, { on := 8, ground := Ground.phase }, { on := 9, ground := Ground.phase }, { on := 10, ground := Ground.phase }, { on := 11, ground := Ground.phase }, { on := 12, ground := Ground.phase }, { on := 13, ground := Ground.phase }], guard := none }) (v := .int .i64 0) rfl (by kernel_rfl) (by kernel_rfl) (by kernel_rfl) (fun _ _ _ h => h) (Or.inl ⟨by rfl, ?_⟩) (by assumption) ?_
  · intro w hSw
    go_simp
  try simp only [Act.put, List.setIfInBounds_toArray, List.set_cons_zero, List.set_cons_succ]
  clear hHeld
  refine wpAnyH_done (by kernel_rfl) ?_ _
  go_wp2_with fail
  refine bodyPost_ret (result_ctt rfl _ _ _ _ gr _ 5 _ _ rfl Hc.out Tryd.underlying25 rfl sizePk rfl rfl) rfl ⟨HBc.out, ?_⟩
  exact ⟨fun _ => ⟨_, _, _, rfl, HOac.out, HObc.out, HO5c.out⟩, fun h => absurd rfl h⟩
theorem Small.g {k : Pk} (h : Small k) : k.tabs.length ≤ 1152921504606846976 := by have := h.tabs; omega
structure UnS (gb gr N : Nat) (X : Nat → Value) (U : List Int) (W : World) : Prop where
  s : OfS 25 33 gb gr X W
  u : IntBlk W N U
set_option maxHeartbeats 8000000 in
theorem program_any (w : World) (k : Pk) (vd vt vc : Value) (hp : PkAt w vd vt vc k) (hs : Small k) (ht : Tabs w) :
    Calls Tryd.prog 11 #[.agg (arr 5 (pkF k.lo k.hi vd vt vc))] w fun e w' => Below w.heap.size w w' ∧ ProgRes w w' (progG k) e := by
  obtain ⟨⟨Ad, nd, cd, rfl, hD⟩, ⟨At, nt, ct, rfl, hT⟩, Ac, nc, cc, rfl, hC⟩ := hp
  have HD := Lib.hid hD
  have HT := Lib.hid hT
  have HN := Lib.hid (show nd ≤ 140737488355328 ∧ nt ≤ 8796093022208 from ⟨by have := hD.len.out; have := hs.data; omega, by have := hT.len.out; have := hs.tabs; omega⟩)
  have HSAME := Lib.hid (prog_same (k := k))
  obtain ⟨pr, hpr⟩ : ∃ pr, pr = progG k := ⟨_, rfl⟩
  rw [← hpr] at HSAME ⊢
  have HP := Lib.hid hpr
  unfold progG at HP
  have HDL := Lib.hid hD.len.out
  rw [hD.len.out] at HP
  have HW := Lib.hid (fun (W : World) (hW : Below w.heap.size w W) => wrong_any W k.lo k.hi At Ad nt ct nd cd k.tabs hT.len.out (by have := hT.len.out; have := hs.tabs; omega) (hT.up hW).row)
  have HDC := Lib.hid (fun (W : World) (hW : Below w.heap.size w W) => Go.Proofs.YtlodoinmippebaaDoor.decode_any W Ac nc cc k.code (sl_left (hC.up hW) hs.bc) (by have := hC.len.out; have := hs.code; omega) (ht.below hW))
  unfold Go.Proofs.YtlodoinmippebaaDoor.Decoded at HDC
  have HFO := Lib.hid (show (D k.code 0 0).1 = 0 → (D k.code 0 0).2.2.length ≤ 4096 ∧ (D k.code 0 0).2.1 = 0 from fun h => ⟨(D_forth (fun x hx => hs.bc x hx) h).2.1, (D_forth (fun x hx => hs.bc x hx) h).2.2.2⟩)
  obtain ⟨lo, hi, data, tabs, code⟩ := k
  simp only at HP HW HDC HD HT HFO HSAME HDL ⊢
  obtain ⟨ez, hez⟩ : ∃ z, z = sizesE lo hi tabs nd := ⟨_, rfl⟩
  rw [← hez] at HW HP
  obtain ⟨d, hd⟩ : ∃ d, d = D code 0 0 := ⟨_, rfl⟩
  rw [← hd] at HP HDC HFO
  obtain ⟨X, hX⟩ : ∃ X, X = pkF lo hi (.slice Ad nd cd) (.slice At nt ct) (.slice Ac nc cc) := ⟨_, rfl⟩
  rw [← hX]
  have HX := Lib.hid hX
  obtain ⟨der, dat, M⟩ := d
  simp only at HP HDC HFO
  clear hX hD hT hC hs ht hpr hez hd
  go_enter Tryd.func11, Tryd.ntmps11
  go_upto_region 1 with (first
    | (refine wpList_box_seg rfl _ (.tmp 0) rfl 5 X rfl ?_; intro w1 h1 hB1 hs1; clear hs1)
    | (refine wpList_alloc_seg rfl 33 rfl 5 zeroPkF zeroPg ?_; intro w2 h2 hB2 hs2))
  obtain ⟨gb, hgb⟩ : ∃ gb, gb = w.heap.size := ⟨_, rfl⟩
  obtain ⟨gr, hgr⟩ : ∃ gr, gr = w1.heap.size := ⟨_, rfl⟩
  rw [← hgb] at h1 ⊢
  rw [← hgr] at h2 ⊢
  have HB2 := Lib.hid (show Below w.heap.size w w2 from hB1.trans (hB2.mono hB1.size))
  have HS := Lib.hid (show OfS 25 33 gb gr X w2 from ⟨h1.up hB2, ⟨_, h2⟩, by have := h1.lt; omega⟩)
  have HGR := Lib.hid (show w.heap.size ≤ gr ∧ gr < w2.heap.size from ⟨by have := hB1.size; omega, h2.lt⟩)
  have HZ2 := Lib.hid (show FB w2 gr 33 5 zeroPkF from h2)
  clear h1 hB1 h2 hB2 hs2 hgb hgr
  have HCA := Lib.hid (show ∀ W, Below w2.heap.size w2 W → W.cell? ⟨gb, 0, none⟩ = some (.int .i64 lo) ∧ W.cell? ⟨gb, 1, none⟩ = some (.int .i64 hi) ∧ W.cell? ⟨gb, 2, none⟩ = some (.slice Ad nd cd) ∧ W.cell? ⟨gb, 3, none⟩ = some (.slice At nt ct) ∧ W.cell? ⟨gb, 4, none⟩ = some (.slice Ac nc cc) from fun W hW => by
    have h3 := HS.out.box.up hW
    rw [HX.out] at h3
    exact ⟨h3.cell 0 (by decide), h3.cell 1 (by decide), h3.cell 2 (by decide), h3.cell 3 (by decide), h3.cell 4 (by decide)⟩)
  obtain ⟨x0, x1, x2, x3, x4⟩ := HCA.out w2 (Below.refl _ _)
  go_upto_region 2 with (go_at_call 33; refine (HW.out w2 HB2.out).mono ?_; rintro e w3 ⟨rfl, hB3⟩)
  have HB32 := Lib.hid hB3
  have HB3 := Lib.hid (HB2.out.trans (hB3.mono HB2.out.size))
  have HS3 := Lib.hid (HS.out.up hB3)
  clear hB3 HW x0 x1 x2 x3 x4
  by_cases h0 : ez = 0
  case neg =>
    have t0 : (ez != 0) = true := by rw [bne_iff_ne]; exact h0
    rw [if_pos h0] at HP
    have HE := Lib.hid h0
    clear h0
    have hz := HZ2.out.up HB32.out
    go_wp2_with (refine wpList_store_all rfl 33 _ _ rfl gr 33 5 _ zeroPkF rfl rfl hz sizePg (pkF_one rfl rfl rfl) ?_; intro w9 h9 hT9 hs9)
    refine bodyPost_ret (result_ctt rfl _ _ _ _ gr _ 5 _ _ rfl h9 Tryd.underlying33 rfl sizePg rfl rfl) rfl ⟨HB3.out.trans (hT9.below HGR.out.1 HB3.out.size), ?_⟩
    rw [HP.out]; exact ⟨fun h => absurd h HE.out, fun _ => rfl⟩
  rw [if_neg (by simpa using h0)] at HP
  subst h0
  obtain ⟨x0, x1, x2, x3, x4⟩ := HCA.out w3 HB32.out
  go_upto_region 5 with (go_at_call 34; refine (HDC.out w3 HB3.out).mono ?_; rintro e w4 ⟨v4, rfl, hO4, hB4⟩; obtain ⟨A5, n5, c5, rfl, hm5, -, -, -⟩ := OwnR.form (ownI_rows hO4))
  have HM5 := Lib.hid hm5.out
  have HB42 := Lib.hid (HB32.out.trans (hB4.mono HB32.out.size))
  have HO4 := Lib.hid (ownR_base (base' := w.heap.size) (ownI_rows hO4) HB3.out.size)
  have HB4 := Lib.hid (HB3.out.trans (hB4.mono HB3.out.size))
  have HS4 := Lib.hid (HS3.out.up hB4)
  clear hB4 hO4 hm5 HDC x0 x1 x2 x3 x4 HS3 HB3 HB32
  by_cases h1 : der = 0
  case neg =>
    have t1 : (der != 0) = true := by rw [bne_iff_ne]; exact h1
    rw [if_pos h1] at HP
    have HE := Lib.hid h1
    clear h1
    have hz := HZ2.out.up HB42.out
    go_wp2_with (refine wpList_store_all rfl 33 _ _ rfl gr 33 5 _ zeroPkF rfl rfl hz sizePg (pkF_one rfl rfl rfl) ?_; intro w9 h9 hT9 hs9)
    refine bodyPost_ret (result_ctt rfl _ _ _ _ gr _ 5 _ _ rfl h9 Tryd.underlying33 rfl sizePg rfl rfl) rfl ⟨HB4.out.trans (hT9.below HGR.out.1 HB4.out.size), ?_⟩
    rw [HP.out]; exact ⟨fun h => absurd h HE.out, fun _ => rfl⟩
  rw [if_neg (by simpa using h1)] at HP
  subst h1
  obtain ⟨hM4, hda⟩ := HFO.out rfl
  have HM4 := Lib.hid hM4
  have HDA := Lib.hid hda
  clear hM4 hda
  have HLO := Lib.hid (fun (W : World) (hW : Below w4.heap.size w4 W) => lost_any W A5 n5 c5 M (nd : Int) HM5.out.symm (by have := HM5.out; have := HM4.out; omega) (rows_code (OwnR.form_row (HO4.out.up hW))))
  obtain ⟨j, hj, hjl, hjz⟩ := lost_rng M (nd : Int)
  obtain ⟨ls, hls⟩ : ∃ z, z = lostL M (nd : Int) := ⟨_, rfl⟩
  rw [← hls] at HLO HP hj hjz
  clear hls
  obtain ⟨l1, l2⟩ := ls
  simp only at HLO HP hj hjz
  subst hj
  have HJ := Lib.hid hjl
  clear hjl hjz
  obtain ⟨x0, x1, x2, x3, x4⟩ := HCA.out w4 HB42.out
  go_upto_region 8 with (go_at_call 35; refine (HLO.out w4 (Below.refl _ _)).mono ?_; rintro e w5 ⟨rfl, hB5⟩)
  have HB52 := Lib.hid (HB42.out.trans (hB5.mono HB42.out.size))
  have HB5 := Lib.hid (HB4.out.trans (hB5.mono HB4.out.size))
  have HS5 := Lib.hid (HS4.out.up hB5)
  have HO5 := Lib.hid (HO4.out.up hB5)
  clear hB5 HLO x0 x1 x2 x3 x4 HS4 HB4 HB42 HO4
  by_cases h2 : l2 = 0
  case neg =>
    have t2 : (l2 != 0) = true := by rw [bne_iff_ne]; exact h2
    rw [if_pos h2] at HP
    have HE := Lib.hid h2
    clear h2
    go_upto_region 9 with fail
    have HUN := Lib.hid (units_any w5.drew A5 n5 c5 M HM5.out.symm (by have := HM5.out; have := HM4.out; omega) (rows_code (OwnR.form_row (HO5.out.up (below_drewN (Below.refl _ _) 1)))))
    obtain ⟨N, hN⟩ : ∃ N, N = w5.drew.heap.size := ⟨_, rfl⟩
    rw [← hN] at HUN
    have HNN := Lib.hid hN
    clear hN
    have HJ2 := Lib.hid (show (j : Int) < ((n5 + 1 : Nat) : Int) ∧ (0 : Int) ≤ j from ⟨by have := HJ.out; have := HM5.out; omega, by omega⟩)
    refine wp_region_held_drew (S := fun W => OfS 25 33 gb gr X W) (by kernel_rfl) (HS5.out.up (below_drewN (Below.refl _ _) 1)) (fun hHeld => ?_)
    refine wpAnyH_take (i := 0) (oi := { dst := some 41, op := Op.build 33 #[], type := 33, pos := "pack.go:45", after := #[], guard := none }) (v := .agg #[.int .i64 0, .int .i64 0, .slice none 0 0, .slice none 0 0, .slice none 0 0]) rfl (by kernel_rfl) (by kernel_rfl) (by kernel_rfl) (fun _ _ _ h => h) (Or.inl ⟨by rfl, ?_⟩) (by assumption) ?_
    · intro w hSw
      go_simp
    try simp only [Act.put, List.setIfInBounds_toArray, List.set_cons_zero, List.set_cons_succ]
    refine wpAnyH_take (i := 1) (oi := { dst := some 42, op := Op.move (Operand.tmp 5), type := 31, pos := "pack.go:45", after := #[], guard := none }) (v := .slice A5 n5 c5) rfl (by kernel_rfl) (by kernel_rfl) (by kernel_rfl) (fun _ _ _ h => h) (Or.inl ⟨by rfl, ?_⟩) (by assumption) ?_
    · intro w hSw
      go_simp
    try simp only [Act.put, List.setIfInBounds_toArray, List.set_cons_zero, List.set_cons_succ]
    refine wpAnyH_take (i := 3) (oi := { dst := some 44, op := Op.move (Operand.tmp 3), type := 3, pos := "pack.go:45", after := #[{ on := 7, ground := Ground.gcOnly Departure.lateStores }], guard := none }) (v := .int .i64 j) rfl (by kernel_rfl) (by kernel_rfl) (by kernel_rfl) (fun _ _ _ h => h) (Or.inl ⟨by rfl, ?_⟩) (by assumption) ?_
    · intro w hSw
      go_simp
    try simp only [Act.put, List.setIfInBounds_toArray, List.set_cons_zero, List.set_cons_succ]
    refine wpAnyH_take (i := 6) (oi := { dst := some 47, op := Op.move (Operand.tmp 4), type := 34, pos := "pack.go:45", after := #[{ on := 8, ground := Ground.gcOnly Departure.lateStores }], guard := none }) (v := .int .i64 l2) rfl (by kernel_rfl) (by kernel_rfl) (by kernel_rfl) (fun _ _ _ h => h) (Or.inl ⟨by rfl, ?_⟩) (by assumption) ?_
    · intro w hSw
      go_simp
    try simp only [Act.put, List.setIfInBounds_toArray, List.set_cons_zero, List.set_cons_succ]
    refine wpAnyH_ready (rs := [2]) (by kernel_rfl) (by simp) ?_
    refine AllReadyH.cons (o := { dst := some 43, op := Op.call { callee := Callee.value (Operand.func 36), args := #[Operand.tmp 42], argTypes := #[31] }, type := 49, pos := "pack.go:45", after := #[{ on := 1, ground := Ground.data }], guard := none }) rfl ?_ ?_
    rotate_left
    · exact AllReadyH.nil
    intro K hK
    go_simp
    go_at_call 36
    refine HUN.out.mono ?_
    rintro e wa ⟨rfl, hU, hBa⟩
    rw [HNN.out] at hBa
    have HBa := Lib.hid (show Below w.heap.size w wa from (below_drewN HB5.out 1).trans (hBa.mono HB5.out.size))
    have HSa := Lib.hid (hHeld.up hBa)
    have HUa := Lib.hid hU
    have HNE := Lib.hid (show gr < N by have := HGR.out; have := HB52.out.size; have := HNN.out; simp at this; omega)
    clear hBa hHeld hU
    go_simp
    refine hK.out _ _ HSa.out (fun hHeld => ?_)
    clear hK K
    try simp only [Act.put, List.setIfInBounds_toArray, List.set_cons_zero, List.set_cons_succ]
    clear hHeld
    refine wpAnyH_stronger (S' := fun W => UnS gb gr N X (unitsL M) W) (fun _ h => h.s) _ _ _ _ ?_
    have hHeld : UnS gb gr N X (unitsL M) wa := ⟨HSa.out, HUa.out⟩
    refine wpAnyH_take (i := 4) (oi := { dst := some 45, op := Op.indexAddr 49 (Operand.tmp 43) (Operand.tmp 44), type := 0, pos := "pack.go:45", after := #[{ on := 2, ground := Ground.data }, { on := 3, ground := Ground.data }, { on := 7, ground := Ground.gcOnly Departure.lateStores }], guard := none }) (v := .pointer (some ⟨N, j, none⟩)) rfl (by kernel_rfl) (by kernel_rfl) (by kernel_rfl) (fun _ _ _ h => h) (Or.inl ⟨by rfl, ?_⟩) (by assumption) ?_
    · intro w hSw
      have q1 := HJ2.out.1
      have q2 := HJ2.out.2
      go_simp
      intro h
      exfalso
      omega
    try simp only [Act.put, List.setIfInBounds_toArray, List.set_cons_zero, List.set_cons_succ]
    refine wpAnyH_take (i := 5) (oi := { dst := some 46, op := Op.load 3 (Operand.tmp 45), type := 3, pos := "pack.go:45", after := #[{ on := 4, ground := Ground.data }, { on := 7, ground := Ground.gcOnly Departure.lateStores }], guard := none }) (v := .int .i64 (uAt M j)) rfl (by kernel_rfl) (by kernel_rfl) (by kernel_rfl) (fun _ _ _ h => h) (Or.inl ⟨by rfl, ?_⟩) (by assumption) ?_
    · intro w hSw
      have q1 : w.cell? ⟨N, j, none⟩ = some (.int .i64 (uAt M j)) := unit_at hSw.u (by have := HJ.out; omega)
      go_simp
    try simp only [Act.put, List.setIfInBounds_toArray, List.set_cons_zero, List.set_cons_succ]
    refine wpAnyH_ready (rs := [7]) (by kernel_rfl) (by simp) ?_
    refine AllReadyH.cons (o := { dst := none, op := Op.store 33 (Operand.tmp 2) (Operand.tmp 41), type := 0, pos := "pack.go:45", after := #[{ on := 0, ground := Ground.data }, { on := 2, ground := Ground.chain }, { on := 0, ground := Ground.phase }, { on := 1, ground := Ground.textOnly Departure.lateStores }, { on := 2, ground := Ground.textOnly Departure.lateStoresUnsure }, { on := 3, ground := Ground.textOnly Departure.lateStores }, { on := 4, ground := Ground.textOnly Departure.lateStores }, { on := 5, ground := Ground.textOnly Departure.lateStores }, { on := 6, ground := Ground.textOnly Departure.lateStores }], guard := none }) rfl ?_ ?_
    rotate_left
    · exact AllReadyH.nil
    intro K hK
    obtain ⟨fo, hfo⟩ := HSa.out.res
    refine step_store_seg (by rfl) 33 _ _ rfl gr 0 33 5 5 fo zeroPkF rfl rfl hfo (by omega) sizePg (pkF_one rfl rfl rfl) ?_
    intro wc hc hTc hsc
    have Hc := Lib.hid (show FB wc gr 33 5 zeroPkF from hc.congr fun q hq => by unfold updR; rw [if_pos (by omega), Nat.sub_zero])
    have HSc := Lib.hid (show UnS gb gr N X (unitsL M) wc from ⟨⟨HSa.out.box.touch hTc HSa.out.ne, ⟨_, Hc.out⟩, HSa.out.ne⟩, (hTc.block N (IntBlk.lt' HUa.out) (by have := HNE.out; omega)).trans HUa.out⟩)
    have HBc := Lib.hid (show Below w.heap.size w wc from HBa.out.trans (hTc.below HGR.out.1 HBa.out.size))
    clear hc hTc hsc hfo
    refine hK.out _ _ HSc.out (fun hHeld => ?_)
    clear hK K
    try simp only [Act.put, List.setIfInBounds_toArray, List.set_cons_zero, List.set_cons_succ]
    refine wpAnyH_take (i := 8) (oi := { dst := some 3, op := Op.assign (Operand.tmp 46), type := 3, pos := "pack.go:45", after := #[{ on := 5, ground := Ground.data }, { on := 7, ground := Ground.chain }, { on := 0, ground := Ground.phase }, { on := 1, ground := Ground.phase }, { on := 2, ground := Ground.phase }, { on := 3, ground := Ground.phase }, { on := 4, ground := Ground.phase }, { on := 5, ground := Ground.phase }, { on := 6, ground := Ground.textOnly Departure.lateStores }, { on := 7, ground := Ground.phase }], guard := none }) (v := .int .i64 (uAt M j)) rfl (by kernel_rfl) (by kernel_rfl) (by kernel_rfl) (fun _ _ _ h => h) (Or.inl ⟨by rfl, ?_⟩) (by assumption) ?_
    · intro w hSw
      go_simp
    try simp only [Act.put, List.setIfInBounds_toArray, List.set_cons_zero, List.set_cons_succ]
    refine wpAnyH_take (i := 9) (oi := { dst := some 4, op := Op.assign (Operand.tmp 47), type := 34, pos := "pack.go:45", after := #[{ on := 6, ground := Ground.data }, { on := 8, ground := Ground.chain }, { on := 0, ground := Ground.phase }, { on := 1, ground := Ground.phase }, { on := 2, ground := Ground.phase }, { on := 3, ground := Ground.phase }, { on := 4, ground := Ground.phase }, { on := 5, ground := Ground.phase }, { on := 6, ground := Ground.phase }, { on := 7, ground := Ground.phase }, { on := 8, ground := Ground.phase }], guard := none }) (v := .int .i64 l2) rfl (by kernel_rfl) (by kernel_rfl) (by kernel_rfl) (fun _ _ _ h => h) (Or.inl ⟨by rfl, ?_⟩) (by assumption) ?_
    · intro w hSw
      go_simp
    try simp only [Act.put, List.setIfInBounds_toArray, List.set_cons_zero, List.set_cons_succ]
    clear hHeld
    refine wpAnyH_done (by kernel_rfl) ?_ _
    go_wp2_with fail
    refine bodyPost_ret (result_ctt rfl _ _ _ _ gr _ 5 _ _ rfl Hc.out Tryd.underlying33 rfl sizePg rfl rfl) rfl ⟨HBc.out, ?_⟩
    rw [HP.out]
    rw [Int.toNat_natCast]
    exact ⟨fun h => absurd h HE.out, fun _ => rfl⟩
  rw [if_neg (by simpa using h2)] at HP
  subst h2
  go_upto_region 10 with fail
  refine wp_region_held_drew (S := fun W => OfS 25 33 gb gr X W) (by kernel_rfl) (HS5.out.up (below_drewN (Below.refl _ _) 1)) (fun hHeld => ?_)
  refine wpAnyH_take (i := 0) (oi := { dst := some 48, op := Op.fieldAddr 25 (Operand.tmp 1) 0, type := 0, pos := "pack.go:47", after := #[], guard := none }) (v := .pointer (some ⟨gb, 0, none⟩)) rfl (by kernel_rfl) (by kernel_rfl) (by kernel_rfl) (fun _ _ _ h => h) (Or.inl ⟨by rfl, ?_⟩) (by assumption) ?_
  · intro w hSw
    go_simp
  try simp only [Act.put, List.setIfInBounds_toArray, List.set_cons_zero, List.set_cons_succ]
  refine wpAnyH_take (i := 1) (oi := { dst := some 49, op := Op.load 3 (Operand.tmp 48), type := 3, pos := "pack.go:47", after := #[{ on := 0, ground := Ground.data }], guard := none }) (v := .int .i64 lo) rfl (by kernel_rfl) (by kernel_rfl) (by kernel_rfl) (fun _ _ _ h => h) (Or.inl ⟨by rfl, ?_⟩) (by assumption) ?_
  · intro w hSw
    have q0 : w.cell? ⟨gb, 0, none⟩ = some (.int .i64 lo) := by rw [hSw.box.cell 0 (by decide), HX.out]; rfl
    go_simp
  try simp only [Act.put, List.setIfInBounds_toArray, List.set_cons_zero, List.set_cons_succ]
  refine wpAnyH_take (i := 2) (oi := { dst := some 50, op := Op.fieldAddr 25 (Operand.tmp 1) 1, type := 0, pos := "pack.go:47", after := #[], guard := none }) (v := .pointer (some ⟨gb, 1, none⟩)) rfl (by kernel_rfl) (by kernel_rfl) (by kernel_rfl) (fun _ _ _ h => h) (Or.inl ⟨by rfl, ?_⟩) (by assumption) ?_
  · intro w hSw
    go_simp
  try simp only [Act.put, List.setIfInBounds_toArray, List.set_cons_zero, List.set_cons_succ]
  refine wpAnyH_take (i := 3) (oi := { dst := some 51, op := Op.load 3 (Operand.tmp 50), type := 3, pos := "pack.go:47", after := #[{ on := 2, ground := Ground.data }], guard := none }) (v := .int .i64 hi) rfl (by kernel_rfl) (by kernel_rfl) (by kernel_rfl) (fun _ _ _ h => h) (Or.inl ⟨by rfl, ?_⟩) (by assumption) ?_
  · intro w hSw
    have q0 : w.cell? ⟨gb, 1, none⟩ = some (.int .i64 hi) := by rw [hSw.box.cell 1 (by decide), HX.out]; rfl
    go_simp
  try simp only [Act.put, List.setIfInBounds_toArray, List.set_cons_zero, List.set_cons_succ]
  refine wpAnyH_take (i := 4) (oi := { dst := some 52, op := Op.fieldAddr 25 (Operand.tmp 1) 2, type := 0, pos := "pack.go:47", after := #[], guard := none }) (v := .pointer (some ⟨gb, 2, none⟩)) rfl (by kernel_rfl) (by kernel_rfl) (by kernel_rfl) (fun _ _ _ h => h) (Or.inl ⟨by rfl, ?_⟩) (by assumption) ?_
  · intro w hSw
    go_simp
  try simp only [Act.put, List.setIfInBounds_toArray, List.set_cons_zero, List.set_cons_succ]
  refine wpAnyH_take (i := 5) (oi := { dst := some 53, op := Op.load 22 (Operand.tmp 52), type := 22, pos := "pack.go:47", after := #[{ on := 4, ground := Ground.data }], guard := none }) (v := .slice Ad nd cd) rfl (by kernel_rfl) (by kernel_rfl) (by kernel_rfl) (fun _ _ _ h => h) (Or.inl ⟨by rfl, ?_⟩) (by assumption) ?_
  · intro w hSw
    have q0 : w.cell? ⟨gb, 2, none⟩ = some (.slice Ad nd cd) := by rw [hSw.box.cell 2 (by decide), HX.out]; rfl
    go_simp
  try simp only [Act.put, List.setIfInBounds_toArray, List.set_cons_zero, List.set_cons_succ]
  refine wpAnyH_take (i := 7) (oi := { dst := some 55, op := Op.fieldAddr 25 (Operand.tmp 1) 3, type := 0, pos := "pack.go:47", after := #[], guard := none }) (v := .pointer (some ⟨gb, 3, none⟩)) rfl (by kernel_rfl) (by kernel_rfl) (by kernel_rfl) (fun _ _ _ h => h) (Or.inl ⟨by rfl, ?_⟩) (by assumption) ?_
  · intro w hSw
    go_simp
  try simp only [Act.put, List.setIfInBounds_toArray, List.set_cons_zero, List.set_cons_succ]
  refine wpAnyH_take (i := 8) (oi := { dst := some 56, op := Op.load 23 (Operand.tmp 55), type := 23, pos := "pack.go:47", after := #[{ on := 7, ground := Ground.data }], guard := none }) (v := .slice At nt ct) rfl (by kernel_rfl) (by kernel_rfl) (by kernel_rfl) (fun _ _ _ h => h) (Or.inl ⟨by rfl, ?_⟩) (by assumption) ?_
  · intro w hSw
    have q0 : w.cell? ⟨gb, 3, none⟩ = some (.slice At nt ct) := by rw [hSw.box.cell 3 (by decide), HX.out]; rfl
    go_simp
  try simp only [Act.put, List.setIfInBounds_toArray, List.set_cons_zero, List.set_cons_succ]
  refine wpAnyH_take (i := 10) (oi := { dst := some 58, op := Op.move (Operand.tmp 5), type := 31, pos := "pack.go:47", after := #[], guard := none }) (v := .slice A5 n5 c5) rfl (by kernel_rfl) (by kernel_rfl) (by kernel_rfl) (fun _ _ _ h => h) (Or.inl ⟨by rfl, ?_⟩) (by assumption) ?_
  · intro w hSw
    go_simp
  try simp only [Act.put, List.setIfInBounds_toArray, List.set_cons_zero, List.set_cons_succ]
  refine wpAnyH_ready (rs := [6]) (by kernel_rfl) (by simp) ?_
  refine AllReadyH.cons (o := { dst := some 54, op := Op.call { callee := Callee.value (Operand.func 37), args := #[Operand.tmp 53], argTypes := #[22] }, type := 22, pos := "pack.go:47", after := #[{ on := 5, ground := Ground.data }], guard := none }) rfl ?_ ?_
  rotate_left
  · exact AllReadyH.nil
  intro K hK
  go_simp
  go_at_call 37
  refine (copied_any w5.drew Ad nd cd data ((HD.out.up HB5.out).up (below_drewN (Below.refl _ _) 1)) HN.out.1).mono ?_
  rintro e wa ⟨va, rfl, hOa, hBa⟩
  have HBa := Lib.hid (show Below w.heap.size w wa from (below_drewN HB5.out 1).trans (hBa.mono HB5.out.size))
  have HBka := Lib.hid (show Below w5.heap.size w5 wa from (below_drewN (Below.refl _ _) 1).trans hBa)
  have HSa := Lib.hid (hHeld.up hBa)
  have HOa := Lib.hid (OwnB_base (base' := w.heap.size) hOa HB5.out.size)
  clear hOa hBa hHeld
  obtain ⟨Aa, na, ca, rfl, -⟩ := own_full HOa.out
  go_simp
  refine hK.out _ _ HSa.out (fun hHeld => ?_)
  clear hK K
  try simp only [Act.put, List.setIfInBounds_toArray, List.set_cons_zero, List.set_cons_succ]
  refine wpAnyH_ready (rs := [9]) (by kernel_rfl) (by simp) ?_
  refine AllReadyH.cons (o := { dst := some 57, op := Op.call { callee := Callee.value (Operand.func 38), args := #[Operand.tmp 56], argTypes := #[23] }, type := 23, pos := "pack.go:47", after := #[{ on := 8, ground := Ground.data }, { on := 6, ground := Ground.chain }], guard := none }) rfl ?_ ?_
  rotate_left
  · exact AllReadyH.nil
  intro K hK
  go_simp
  go_at_call 38
  refine (copiedT_any wa At nt ct tabs (HT.out.up HBa.out) HN.out.2).mono ?_
  rintro e wb ⟨vb, rfl, hOb, hBb⟩
  have HBb := Lib.hid (show Below w.heap.size w wb from HBa.out.trans (hBb.mono HBa.out.size))
  have HBkb := Lib.hid (show Below w5.heap.size w5 wb from HBka.out.trans (hBb.mono HBka.out.size))
  have HSb := Lib.hid (HSa.out.up hBb)
  have HOb := Lib.hid (ownR_base (base' := w.heap.size) hOb HBa.out.size)
  have HOab := Lib.hid (ownB_up HOa.out hBb)
  clear hOb hBb hHeld HOa
  obtain ⟨Ab, nb, cb, rfl, -⟩ := HOb.out.form
  go_simp
  refine hK.out _ _ HSb.out (fun hHeld => ?_)
  clear hK K
  try simp only [Act.put, List.setIfInBounds_toArray, List.set_cons_zero, List.set_cons_succ]
  refine wpAnyH_take (i := 11) (oi := { dst := some 59, op := Op.build 33 #[(0, Operand.tmp 49), (1, Operand.tmp 51), (2, Operand.tmp 54), (3, Operand.tmp 57), (4, Operand.tmp 58)], type := 33, pos := "pack.go:47", after := #[{ on := 1, ground := Ground.data }, { on := 3, ground := Ground.data }, { on := 6, ground := Ground.data }, { on := 9, ground := Ground.data }, { on := 10, ground := Ground.data }], guard := none }) (v := .agg #[.int .i64 lo, .int .i64 hi, .slice Aa na ca, .slice Ab nb cb, .slice A5 n5 c5]) rfl (by kernel_rfl) (by kernel_rfl) (by kernel_rfl) (fun _ _ _ h => h) (Or.inl ⟨by rfl, ?_⟩) (by assumption) ?_
  · intro w hSw
    go_simp
  try simp only [Act.put, List.setIfInBounds_toArray, List.set_cons_zero, List.set_cons_succ]
  have HO5b := Lib.hid (HO5.out.up HBkb.out)
  clear hHeld
  refine wpAnyH_ready (rs := [12]) (by kernel_rfl) (by simp) ?_
  refine AllReadyH.cons (o := { dst := none, op := Op.store 33 (Operand.tmp 2) (Operand.tmp 59), type := 0, pos := "pack.go:47", after := #[{ on := 11, ground := Ground.data }, { on := 9, ground := Ground.chain }, { on := 0, ground := Ground.phase }, { on := 1, ground := Ground.phase }, { on := 2, ground := Ground.phase }, { on := 3, ground := Ground.phase }, { on := 4, ground := Ground.phase }, { on := 5, ground := Ground.phase }, { on := 6, ground := Ground.phase }, { on := 7, ground := Ground.phase }, { on := 8, ground := Ground.phase }, { on := 9, ground := Ground.phase }, { on := 10, ground := Ground.phase }, { on := 11, ground := Ground.phase }], guard := none }) rfl ?_ ?_
  rotate_left
  · exact AllReadyH.nil
  intro K hK
  obtain ⟨fo, hfo⟩ := HSb.out.res
  refine step_store_seg (by rfl) 33 _ _ rfl gr 0 33 5 5 fo (pkF lo hi (.slice Aa na ca) (.slice Ab nb cb) (.slice A5 n5 c5)) rfl rfl hfo (by omega) sizePg (pkF_one rfl rfl rfl) ?_
  intro wc hc hTc hsc
  have Hc := Lib.hid (show FB wc gr 33 5 (pkF lo hi (.slice Aa na ca) (.slice Ab nb cb) (.slice A5 n5 c5)) from hc.congr fun q hq => by unfold updR; rw [if_pos (by omega), Nat.sub_zero])
  have HSc := Lib.hid (show OfS 25 33 gb gr X wc from ⟨HSb.out.box.touch hTc HSb.out.ne, ⟨_, Hc.out⟩, HSb.out.ne⟩)
  have HOac := Lib.hid (ownB_touch HOab.out hTc hfo (by decide))
  have HObc := Lib.hid (ownT_touch HOb.out hTc hfo (by decide))
  have HO5c := Lib.hid (own_ne HO5b.out hTc hfo (by decide))
  have HBc := Lib.hid (show Below w.heap.size w wc from HBb.out.trans (hTc.below HGR.out.1 HBb.out.size))
  clear hc hTc hsc hfo
  refine hK.out _ _ HSc.out (fun hHeld => ?_)
  clear hK K
  try simp only [Act.put, List.setIfInBounds_toArray, List.set_cons_zero, List.set_cons_succ]
  refine wpAnyH_take (i := 13) (oi := { dst := some 3, op := Op.assign (Operand.const (Value.int IntKind.i64 0)), type := 3, pos := "pack.go:47", after := #[{ on := 12, ground := Ground.chain }, { on := 0, ground := Ground.phase }, { on := 1, ground := Ground.phase }, { on := 2, ground := Ground.phase }, { on := 3, ground := Ground.phase }, { on := 4, ground := Ground.phase }, { on := 5, ground := Ground.phase }, { on := 6, ground := Ground.phase }, { on := 7, ground := Ground.phase }, { on := 8, ground := Ground.phase }, { on := 9, ground := Ground.phase }, { on := 10, ground := Ground.phase }, { on := 11, ground := Ground.phase }, { on := 12, ground := Ground.phase }], guard := none }) (v := .int .i64 0) rfl (by kernel_rfl) (by kernel_rfl) (by kernel_rfl) (fun _ _ _ h => h) (Or.inl ⟨by rfl, ?_⟩) (by assumption) ?_
  · intro w hSw
    go_simp
  try simp only [Act.put, List.setIfInBounds_toArray, List.set_cons_zero, List.set_cons_succ]
  refine wpAnyH_take (i := 14) (oi := { dst := some 4, op := Op.assign (Operand.const (Value.int IntKind.i64 0)), type := 34, pos := "pack.go:47", after := #[{ on := 13, ground := Ground.chain }, { on := 0, ground := Ground.phase }, { on := 1, ground := Ground.phase }, { on := 2, ground := Ground.phase }, { on := 3, ground := Ground.phase }, { on := 4, ground := Ground.phase }, { on := 5, ground := Ground.phase }, { on := 6, ground := Ground.phase }, { on := 7, ground := Ground.phase }, { on := 8, ground := Ground.phase }, { on := 9, ground := Ground.phase }, { on := 10, ground := Ground.phase }, { on := 11, ground := Ground.phase }, { on := 12, ground := Ground.phase }, { on := 13, ground := Ground.phase }], guard := none }) (v := .int .i64 0) rfl (by kernel_rfl) (by kernel_rfl) (by kernel_rfl) (fun _ _ _ h => h) (Or.inl ⟨by rfl, ?_⟩) (by assumption) ?_
  · intro w hSw
    go_simp
  try simp only [Act.put, List.setIfInBounds_toArray, List.set_cons_zero, List.set_cons_succ]
  clear hHeld
  refine wpAnyH_done (by kernel_rfl) ?_ _
  go_wp2_with fail
  refine bodyPost_ret (result_ctt rfl _ _ _ _ gr _ 5 _ _ rfl Hc.out Tryd.underlying33 rfl sizePg rfl rfl) rfl ⟨HBc.out, ?_⟩
  rw [HP.out]
  exact ⟨fun _ => ⟨_, _, _, rfl, HOac.out, HObc.out, HO5c.out⟩, fun h => absurd rfl h⟩
end Go.Proofs.YtlodoinmippebaaDoor.Pak
