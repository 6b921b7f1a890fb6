/- Package pack: all sections of a container. -/
import Derived.Test.YtkfcfoidaalnlaaPkF
namespace Go.Proofs.Ytkfcfoidaalnlaa.Pak
open Go.ChangeShapes Go.WideShapes Go.ChangeAt Go.RowKit
set_option linter.unusedVariables false
set_option linter.unusedSimpArgs false
set_option maxRecDepth 100000
structure Tb (w : World) (A : Option Addr) (n c : Nat) (T : List (Int × Int)) : Prop where
  len : Hid (T.length = n)
  cap : n ≤ c
  row : RowsAt w A 2 tabF T
theorem Tb.up {w w' : World} {A : Option Addr} {n c : Nat} {T : List (Int × Int)} (h : Tb w A n c T) (hb : Below w.heap.size w w') : Tb w' A n c T := ⟨h.len, h.cap, h.row.below hb⟩
def pkF (lo hi : Int) (vd vt vc : Value) : Nat → Value
  | 0 => .int .i64 lo
  | 1 => .int .i64 hi
  | 2 => vd
  | 3 => vt
  | _ => vc
/-- a container in memory: its three slices -/
structure PkAt (w : World) (vd vt vc : Value) (k : Pk) : Prop where
  data : ∃ A n c, vd = .slice A n c ∧ Sl w A n c k.data
  tabs : ∃ A n c, vt = .slice A n c ∧ Tb w A n c k.tabs
  code : ∃ A n c, vc = .slice A n c ∧ Sl w A n c k.code
theorem PkAt.up {w w' : World} {vd vt vc : Value} {k : Pk} (h : PkAt w vd vt vc k) (hb : Below w.heap.size w w') : PkAt w' vd vt vc k := by
  obtain ⟨⟨A, n, c, e, h1⟩, ⟨A', n', c', e', h2⟩, A'', n'', c'', e'', h3⟩ := h
  exact ⟨⟨A, n, c, e, h1.up hb⟩, ⟨A', n', c', e', h2.up hb⟩, A'', n'', c'', e'', h3.up hb⟩
def F4 (a b c d : Sc) : Nat → Sc
  | 0 => a
  | 1 => b
  | 2 => c
  | _ => d
def list4 (k : Pk) : List (Int × List Int) := [(1, le k.lo 2 ++ le k.hi 2), (2, tabB k.tabs), (3, k.data), (4, k.code)]
def full (x : Int × List Int) : Bool := !(decide (x.2 = []))
/-- what sections answers: a row of sections, their bytes in memory -/
def Sectioned (w : World) (k : Pk) (e : Ending) (w' : World) : Prop :=
  ∃ A m c l, e = .returned (.slice A m c) ∧ Hid (l.length = m) ∧ m ≤ 4 ∧ RowsAt w' A 3 secF l ∧ l.map (fun s => (s.kind, s.L)) = (list4 k).filter full ∧ (∀ s ∈ l, Sl w' s.A s.n s.c s.L) ∧ Below w.heap.size w w'
theorem empty_iff {w : World} {s : Sc} (h : Sl w s.A s.n s.c s.L) : keep s = full (s.kind, s.L) := by
  unfold keep full empty
  have := h.len.out
  congr 1
  rw [decide_eq_decide]
  constructor
  · intro e; exact List.eq_nil_of_length_eq_zero (show s.L.length = 0 by omega)
  · intro e; simp only at e; rw [e] at this; simp at this; omega
theorem filter_map {w : World} : ∀ (l : List Sc), (∀ s ∈ l, Sl w s.A s.n s.c s.L) → (l.filter keep).map (fun s => (s.kind, s.L)) = (l.map (fun s => (s.kind, s.L))).filter full
  | [], _ => rfl
  | s :: t, h => by
    rw [List.map_cons, List.filter_cons, List.filter_cons, empty_iff (h s (by simp))]
    have ih := filter_map t fun x hx => h x (by simp [hx])
    cases full (s.kind, s.L)
    · simpa using ih
    · simp [ih]
theorem secs_fb (w : World) (A0 : Option Addr) (n0 c0 : Nat) (L0 : List Int) (A1 : Option Addr) (n1 c1 : Nat) (L1 : List Int) (A2 : Option Addr) (n2 c2 : Nat) (L2 : List Int) (A3 : Option Addr) (n3 c3 : Nat) (L3 : List Int) :
    FB (w.alloc (.cells #[.int .i64 1, .int .i64 0, .slice A0 n0 c0, .int .i64 2, .int .i64 0, .slice A1 n1 c1, .int .i64 3, .int .i64 0, .slice A2 n2 c2, .int .i64 4, .int .i64 0, .slice A3 n3 c3] 77)) w.heap.size 77 (4 * 3) (rowF (F4 ⟨1, 0, A0, n0, c0, L0⟩ ⟨2, 0, A1, n1, c1, L1⟩ ⟨3, 0, A2, n2, c2, L2⟩ ⟨4, 0, A3, n3, c3, L3⟩)) := FB.new w _ 12 (rowF (F4 ⟨1, 0, A0, n0, c0, L0⟩ ⟨2, 0, A1, n1, c1, L1⟩ ⟨3, 0, A2, n2, c2, L2⟩ ⟨4, 0, A3, n3, c3, L3⟩))
set_option maxHeartbeats 4000000 in
theorem sections_any (w : World) (k : Pk) (vd vt vc : Value) (hk : PkAt w vd vt vc k) (hT : k.tabs.length ≤ 8) :
    Calls Try.prog 23 #[.agg (arr 5 (pkF k.lo k.hi vd vt vc))] w (Sectioned w k) := by
  obtain ⟨⟨Ad, nd, cd, rfl, hD⟩, ⟨At, nt, ct, rfl, hTb⟩, Ac, nc, cc, rfl, hC⟩ := hk
  obtain ⟨lo, hi, data, tabs, code⟩ := k
  simp only at hD hTb hC hT ⊢
  obtain ⟨T, hTT⟩ : ∃ T, T = pkF lo hi (.slice Ad nd cd) (.slice At nt ct) (.slice Ac nc cc) := ⟨_, rfl⟩
  rw [← hTT]
  have HTT := Lib.hid hTT
  clear hTT
  go_enter Try.func23, Try.ntmps23
  go_upto_region 1 with (refine wpList_box_seg rfl _ (.tmp 0) rfl 5 T rfl ?_; intro w1 h1 hB1 hs1)
  obtain ⟨gk, hgk⟩ : ∃ gk, gk = w.heap.size := ⟨_, rfl⟩
  rw [← hgk] at h1 ⊢
  have HK := Lib.hid (show ∀ W, Below w1.heap.size w1 W → W.cell? ⟨gk, 0, none⟩ = some (.int .i64 lo) ∧ W.cell? ⟨gk, 1, none⟩ = some (.int .i64 hi) ∧ W.cell? ⟨gk, 2, none⟩ = some (.slice Ad nd cd) ∧ W.cell? ⟨gk, 3, none⟩ = some (.slice At nt ct) ∧ W.cell? ⟨gk, 4, none⟩ = some (.slice Ac nc cc) ∧ Below w1.heap.size w1 W from fun W hW => by
    have h2 := h1.up hW
    rw [HTT.out] at h2
    exact ⟨h2.cell 0 (by decide), h2.cell 1 (by decide), h2.cell 2 (by decide), h2.cell 3 (by decide), h2.cell 4 (by decide), hW⟩)
  have hb0 : Below w.heap.size w w1 := hB1
  have HB1 := Lib.hid hb0
  have HD1 := Lib.hid (hD.up hb0)
  have HC1 := Lib.hid (hC.up hb0)
  have HT1 := Lib.hid (hTb.up hb0)
  have HTL := Lib.hid hT
  clear h1 hB1 hs1 hgk hD hTb hC hT hb0 HTT
  have b0 : Below w1.heap.size w1 w1.drew := below_drewN (Below.refl _ _) 1
  have HTD := Lib.hid (show ∀ W, Below w1.heap.size w1 W → Calls Try.prog 38 #[.slice At nt ct] W (SlEnd w1 W (tabB tabs)) from fun W hW =>
    sizes_any w1 W hW At nt ct tabs HT1.out.len.out (by have := HT1.out.len.out; have := HTL.out; omega) (HT1.out.row.below hW))
  have HLN := Lib.hid (show ∀ W, Below w1.heap.size w1 W → Calls Try.prog 37 #[.int .i64 lo, .int .i64 hi] W (SlEnd w1 W (le lo 2 ++ le hi 2)) from fun W hW => lens_any w1 W hW lo hi)
  go_region_held3 (fun W => W.cell? ⟨gk, 0, none⟩ = some (.int .i64 lo) ∧ W.cell? ⟨gk, 1, none⟩ = some (.int .i64 hi) ∧ W.cell? ⟨gk, 2, none⟩ = some (.slice Ad nd cd) ∧ W.cell? ⟨gk, 3, none⟩ = some (.slice At nt ct) ∧ W.cell? ⟨gk, 4, none⟩ = some (.slice Ac nc cc) ∧ Below w1.heap.size w1 W)
    (first | exact HK.out _ b0 | exact HK.out _ bL | exact HK.out _ bS | exact HK.out _ (bS.alloc bS.size _) | exact HK.out _ (bL.alloc bL.size _))
    (first
      | (go_at_call 37; refine (HLN.out _ (by first | exact b0 | exact bS)).mono ?_; rintro e wL ⟨AL, nL, cL, rfl, hSL, uL, bL⟩)
      | (go_at_call 38; refine (HTD.out _ (by first | exact b0 | exact bL)).mono ?_; rintro e wS ⟨AS, nS, cS, rfl, hSS, uS, bS⟩))
  · have HSL := Lib.hid (show Sl wS AL nL cL (le lo 2 ++ le hi 2) from hSL.up uS)
    have HSS := Lib.hid (show Sl wS AS nS cS (tabB tabs) from hSS)
    have HBE := Lib.hid bS
    have hFB := secs_fb wS AL nL cL (le lo 2 ++ le hi 2) AS nS cS (tabB tabs) Ad nd cd data Ac nc cc code
    have hbx := below_box wS (.cells #[.int .i64 1, .int .i64 0, .slice AL nL cL, .int .i64 2, .int .i64 0, .slice AS nS cS, .int .i64 3, .int .i64 0, .slice Ad nd cd, .int .i64 4, .int .i64 0, .slice Ac nc cc] 77)
    have HX := Lib.hid hbx
    have HFB := Lib.hid hFB
    have HGE := Lib.hid (show w1.heap.size ≤ wS.heap.size from bS.size)
    clear hSL hSS bL bS uL uS hFB hbx b0 HTD HLN HK
    try (rename_i hHeld; clear hHeld)
    obtain ⟨gs, hgs⟩ : ∃ gs, gs = wS.heap.size := ⟨_, rfl⟩
    obtain ⟨wx, hwx⟩ : ∃ wx, wx = wS.alloc (.cells #[.int .i64 1, .int .i64 0, .slice AL nL cL, .int .i64 2, .int .i64 0, .slice AS nS cS, .int .i64 3, .int .i64 0, .slice Ad nd cd, .int .i64 4, .int .i64 0, .slice Ac nc cc] 77) := ⟨_, rfl⟩
    rw [← hwx] at HX HFB ⊢
    rw [← hgs] at HFB HGE ⊢
    have HGS := Lib.hid hgs
    clear hwx hgs
    go_wp2_with (go_at_call 39; refine (delete_any wx gs 4 _ (by decide) (by decide) HFB.out).mono ?_; rintro e w3 ⟨m, F', rfl, hm, hFB, hmap, hT⟩)
    go_ret
    refine ⟨some ⟨gs, 0, none⟩, m, 4, (List.range m).map F', rfl, Lib.hid (by simp), hm, fb_rows hFB m hm, ?_, ?_, ?_⟩
    all_goals
      have hbe : Below wS.heap.size wS w3 := HX.out.trans (hT.below (by have := HGS.out; omega) HX.out.size)
      have hbe1 : Below w1.heap.size w1 w3 := HBE.out.trans (hbe.mono (by have := HGE.out; have := HGS.out; omega))
      have hall : ∀ s ∈ (List.range 4).map (F4 ⟨1, 0, AL, nL, cL, le lo 2 ++ le hi 2⟩ ⟨2, 0, AS, nS, cS, tabB tabs⟩ ⟨3, 0, Ad, nd, cd, data⟩ ⟨4, 0, Ac, nc, cc, code⟩), Sl w3 s.A s.n s.c s.L := by
        intro s hs
        have h4 : (List.range 4).map (F4 ⟨1, 0, AL, nL, cL, le lo 2 ++ le hi 2⟩ ⟨2, 0, AS, nS, cS, tabB tabs⟩ ⟨3, 0, Ad, nd, cd, data⟩ ⟨4, 0, Ac, nc, cc, code⟩) = [⟨1, 0, AL, nL, cL, le lo 2 ++ le hi 2⟩, ⟨2, 0, AS, nS, cS, tabB tabs⟩, ⟨3, 0, Ad, nd, cd, data⟩, ⟨4, 0, Ac, nc, cc, code⟩] := rfl
        rw [h4] at hs
        simp only [List.mem_cons, List.not_mem_nil, or_false] at hs
        rcases hs with rfl | rfl | rfl | rfl
        · exact HSL.out.up hbe
        · exact HSS.out.up hbe
        · exact HD1.out.up hbe1
        · exact HC1.out.up hbe1
    · rw [hmap, filter_map _ hall]; rfl
    · intro s hs
      rw [hmap] at hs
      exact hall s (List.mem_filter.1 hs).1
    · exact HB1.out.trans (hbe1.mono HB1.out.size)
end Go.Proofs.Ytkfcfoidaalnlaa.Pak
