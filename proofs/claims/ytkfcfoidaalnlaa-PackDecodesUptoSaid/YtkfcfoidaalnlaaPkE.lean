/- Package pack: sections that are left out (slices.DeleteFunc). -/
import Derived.Test.YtkfcfoidaalnlaaPkD
namespace Go.Proofs.Ytkfcfoidaalnlaa.Pak
open Go.ChangeShapes Go.WideShapes Go.ChangeAt Go.RowKit
set_option linter.unusedVariables false
set_option linter.unusedSimpArgs false
set_option maxRecDepth 100000
def rowF (F : Nat → Sc) (k : Nat) : Value := secF (F (k / 3)) (k % 3)
theorem rowF_at (F : Nat → Sc) (j k : Nat) (hk : k < 3) : rowF F (j * 3 + k) = secF (F j) k := by
  unfold rowF
  rw [show (j * 3 + k) / 3 = j by omega, show (j * 3 + k) % 3 = k by omega]
theorem row_upd (F : Nat → Sc) (i : Nat) (x : Sc) (N : Nat) : ∀ k, k < N → updR (rowF F) (i * 3) 3 (secF x) k = rowF (fun q => if q = i then x else F q) k := fun k _ => by
  unfold updR rowF
  by_cases h : i * 3 ≤ k ∧ k < i * 3 + 3
  · have e : k / 3 = i := by omega
    simp only [if_pos h, if_pos e, show k - i * 3 = k % 3 by omega]
  · have e : ¬ (k / 3 = i) := by omega
    simp only [if_neg h, if_neg e]
theorem fb_rows {w : World} {g N : Nat} {F : Nat → Sc} {t : TypeId} (h : FB w g t (N * 3) (rowF F)) (m : Nat) (hm : m ≤ N) : RowsAt w (some ⟨g, 0, none⟩) 3 secF ((List.range m).map F) := fun _ =>
  ⟨g, 0, rfl, h.lt, fun j a hj k hk => by
    have hjm : j < m := by
      rcases Nat.lt_or_ge j m with h1 | h1
      · exact h1
      · rw [List.getElem?_eq_none (by simpa using h1)] at hj; cases hj
    have e : a = F j := by simpa [hjm] using hj.symm
    rw [Nat.zero_add, h.cell (j * 3 + k) (by omega), rowF_at F j k hk, e]⟩
theorem run_clear_seg {P : Program} (w : World) (T e ty : TypeId) (s : Nat) (z : Nat → Value) (hu : P.underlying T = some (.slice e)) (hz : (P.info? e).bind (fun i => i.zero.map Value.cells) = some (arr s z)) (hs0 : 0 < s) (h1 : ∀ k, k < s → (z k).oneCell' = true)
    (g off n c N : Nat) (t : TypeId) (f : Nat → Value) (hg : FB w g t N f) (hn : off + n * s ≤ N) :
    (Builtin.clear_ #[T] ty #[.slice (some ⟨g, off, none⟩) n c]).run P w = .ok (.tuple #[]) (w.setRow g (arr N (updR f off (n * s) fun k => z (k % s)))) := by
  cases hq : P.info? e with
  | none => simp [hq] at hz
  | some i =>
    cases hzz : i.zero with
    | none => simp [hq, hzz] at hz
    | some zv =>
      have hc : zv.cells = arr s z := by simpa [hq, hzz] using hz
      have r2 : ∀ w : World, (zeroValue e).run P w = .ok zv w := fun w => by simp [zeroValue, typeInfo, hq, hzz]
      have hzc : (Builtin.zeroCells zv.cells n) = arr (n * s) (fun k => z (k % s)) := by
        rw [hc]
        refine arr_of _ _ _ (by simp [Builtin.zeroCells, arr_size]) fun k hk => ?_
        unfold Builtin.zeroCells
        have h2 : k % s < s := Nat.mod_lt _ hs0
        have h3 := arr_get s z (k % s) h2
        simp only [arr_size, Array.getElem?_map, Array.getElem?_range, hk, if_true, Option.map_some]
        rw [Array.getElem!_eq_getD]
        simp [Array.getD, arr_size, h2] at h3 ⊢
        exact h3
      have hst := run_storeCells_at P g off t (arr (n * s) (fun k => z (k % s))).toList 0 (arr N f) w hg (by simp [arr]; omega) (fun v hv => by
        rw [arr_toList, List.mem_map] at hv
        obtain ⟨q, hq, rfl⟩ := hv
        exact h1 _ (Nat.mod_lt _ hs0))
      rw [Nat.add_zero, updR_list N off (n * s) f (fun k => z (k % s)) hn] at hst
      rcases Nat.eq_zero_or_pos n with h0 | h0
      · subst h0
        simp only [Nat.zero_mul] at hst ⊢
        have e1 : arr N (updR f off 0 fun k => z (k % s)) = arr N f := arr_congr fun k _ => updR_zero _ _ _ _
        rw [e1]
        have e2 : w.setRow g (arr N f) = w := setRow_self w g (arr N f) t (0, 0) hg
        rw [e2]
        simp [Builtin.clear_, run_underlying hu, r2]
      · obtain ⟨m, rfl⟩ : ∃ m, n = m + 1 := ⟨n - 1, by omega⟩
        simp [Builtin.clear_, run_underlying hu, r2, hzc, hst]
theorem idxF_spec {α : Type} (p : α → Bool) : ∀ (l : List α) (j i : Nat), idxF p j l = (i : Int) → ∃ q, i = j + q ∧ q < l.length ∧ (∀ r, r < q → ∀ a, l[r]? = some a → p a = false) ∧ ∀ a, l[q]? = some a → p a = true
  | [], j, i, h => by unfold idxF at h; omega
  | x :: t, j, i, h => by
    change (if p x = true then (j : Int) else idxF p (j + 1) t) = i at h
    cases hp : p x
    · rw [hp, if_neg (by simp)] at h
      obtain ⟨q, e, hq, h1, h2⟩ := idxF_spec p t (j + 1) i h
      refine ⟨q + 1, by omega, by simpa using hq, fun r hr a ha => ?_, fun a ha => h2 a (by simpa using ha)⟩
      cases r with
      | zero => have : x = a := by simpa using ha
                rw [← this]; exact hp
      | succ r => exact h1 r (by omega) a (by simpa using ha)
    · rw [hp, if_pos rfl] at h
      exact ⟨0, by omega, by simp, fun r hr => by omega, fun a ha => by have : x = a := by simpa using ha
                                                                        rw [← this]; exact hp⟩
theorem idxF_none {α : Type} (p : α → Bool) : ∀ (l : List α) (j : Nat), idxF p j l < 0 → l.filter (fun x => !p x) = l
  | [], j, h => rfl
  | x :: t, j, h => by
    change (if p x = true then (j : Int) else idxF p (j + 1) t) < 0 at h
    cases hp : p x
    · rw [hp, if_neg (by simp)] at h
      rw [List.filter_cons, hp]
      simp only [Bool.not_false, if_true]
      rw [idxF_none p t (j + 1) h]
    · rw [hp, if_pos rfl] at h; omega
theorem idxF_ge {α : Type} (p : α → Bool) : ∀ (l : List α) (j : Nat), -1 ≤ idxF p j l
  | [], j => Int.le_refl _
  | x :: t, j => by
    unfold idxF
    split
    · omega
    · exact idxF_ge p t _
theorem range_filter_succ (F : Nat → Sc) (p : Sc → Bool) (j : Nat) : ((List.range (j + 1)).map F).filter p = ((List.range j).map F).filter p ++ (if p (F j) = true then [F j] else []) := by
  rw [List.range_succ, List.map_append, List.filter_append]
  congr 1
  simp only [List.map_cons, List.map_nil, List.filter_cons, List.filter_nil]
theorem map_upd (F : Nat → Sc) (i : Nat) (x : Sc) : (List.range (i + 1)).map (fun q => if q = i then x else F q) = (List.range i).map F ++ [x] := by
  rw [List.range_succ, List.map_append, List.map_cons, List.map_nil, if_pos rfl]
  congr 1
  refine List.map_congr_left fun q hq => ?_
  rw [if_neg (by have := List.mem_range.1 hq; omega)]
def keep (s : Sc) : Bool := !empty s
theorem filter_all (F : Nat → Sc) : ∀ i : Nat, (∀ r, r < i → empty (F r) = false) → ((List.range i).map F).filter keep = (List.range i).map F := fun i h => by
  rw [List.filter_eq_self]
  intro a ha
  obtain ⟨q, hq, rfl⟩ := List.mem_map.1 ha
  unfold keep
  rw [h q (List.mem_range.1 hq)]; rfl
/-- what DeleteFunc leaves: the first m places of the same row -/
def Deleted (w : World) (g N : Nat) (F : Nat → Sc) (e : Ending) (w' : World) : Prop :=
  ∃ m F', e = .returned (.slice (some ⟨g, 0, none⟩) m N) ∧ m ≤ N ∧ FB w' g 77 (N * 3) (rowF F') ∧ (List.range m).map F' = ((List.range N).map F).filter keep ∧ Touch g w w'
set_option maxHeartbeats 4000000 in
theorem delete_any (w : World) (g N : Nat) (F : Nat → Sc) (hN : 0 < N) (hN4 : N ≤ 1048576) (hF : FB w g 77 (N * 3) (rowF F)) :
    Calls Try.prog 39 #[.slice (some ⟨g, 0, none⟩) N N, .func (.func 40) #[] #[]] w (Deleted w g N F) := by
  have HF := Lib.hid hF
  have HI := Lib.hid (index_sec w (some ⟨g, 0, none⟩) N N ((List.range N).map F) (by simp) (by omega) (fb_rows hF N (Nat.le_refl _)) 40 empty (fun a W => by kernel_rfl) (fun x W => empty_any x W))
  have hen : ∀ (a : Array Value) (W : World), (callFunc 40 a).run Try.prog W = .ok (.enter 40 a) W := fun a W => by kernel_rfl
  obtain ⟨ix, hix⟩ : ∃ ix, ix = idxF empty 0 ((List.range N).map F) := ⟨_, rfl⟩
  rw [← hix] at HI
  have hge := idxF_ge empty ((List.range N).map F) 0
  rw [← hix] at hge
  have HIX := Lib.hid hix
  clear hF hix
  go_enter Try.func39, Try.ntmps39
  go_upto_region 2 with (go_at_call 54; refine HI.out.mono ?_; rintro e w1 ⟨rfl, hB1⟩)
  have HF1 := Lib.hid (HF.out.up hB1)
  have HT1 := Lib.hid (Touch.of_below (g := g) hB1)
  clear HI hB1
  by_cases h0 : ix = -1
  · have t0 : (ix == -1) = true := by rw [h0]; rfl
    have HA := Lib.hid (idxF_none empty ((List.range N).map F) 0 (by rw [← HIX.out, h0]; decide))
    clear h0
    go_wp2_with fail
    go_ret
    exact ⟨N, F, rfl, Nat.le_refl _, HF1.out, HA.out.symm, HT1.out⟩
  · have t0 : (ix == -1) = false := by rw [beq_eq_false_iff_ne]; exact h0
    obtain ⟨i0, rfl⟩ : ∃ i0 : Nat, ix = (i0 : Int) := ⟨ix.toNat, by omega⟩
    obtain ⟨q, hq, hql, hq1, hq2⟩ := idxF_spec empty ((List.range N).map F) 0 i0 HIX.out.symm
    obtain rfl : i0 = q := by omega
    have hiN : i0 < N := by simpa using hql
    have HA := Lib.hid (show (List.range i0).map F = ((List.range (i0 + 1)).map F).filter keep by
      rw [range_filter_succ]
      have h1 : empty (F i0) = true := hq2 (F i0) (by simp [hiN])
      have h2 : keep (F i0) = false := by unfold keep; rw [h1]; rfl
      rw [h2, if_neg (by simp), List.append_nil, filter_all F i0 fun r hr => hq1 r hr (F r) (by rw [List.getElem?_map, List.getElem?_range (Nat.lt_trans hr hiN)]; rfl)])
    clear hge h0 hq hql hq1 hq2 HIX HF
    go_wp2_with fail
    go_loopw [5, 6, 7, 16, 17, 18, 19, 20, 21, 22, 23, 24, 25, 26, 27, 28, 29, 30, 31, 32, 33, 34, 35] (fun a5 a6 _ _ _ _ _ _ _ _ _ _ _ _ _ _ _ _ _ _ _ _ _ wr => ∃ (i j : Nat) (F' : Nat → Sc), a5 = .int .i64 i ∧ a6 = .int .i64 j ∧ i < j ∧ j ≤ N ∧ FB wr g 77 (N * 3) (rowF F') ∧ Hid (∀ q, j ≤ q → F' q = F q) ∧ Hid ((List.range i).map F' = ((List.range j).map F).filter keep) ∧ Touch g w wr) (fun _ a6 _ _ _ _ _ _ _ _ _ _ _ _ _ _ _ _ _ _ _ _ _ _ => (N - intOf a6).toNat)
    case atStart => exact ⟨i0, i0 + 1, F, rfl, by go_num, by omega, by omega, HF1.out, Lib.hid fun _ _ => rfl, HA, HT1.out⟩
    case round =>
      obtain ⟨i, j, F', rfl, rfl, hij, hjN, hF, HS, HA', hT⟩ := hrel
      have HF := Lib.hid hF
      have HT := Lib.hid hT
      clear hF hT HF1 HT1 HA
      by_cases hlt : j < N
      · have hlt' : (j : Int) < N := by omega
        have hiN' : (i : Int) < N := by omega
        obtain ⟨x, hx⟩ : ∃ x, x = F j := ⟨_, rfl⟩
        have hc : ∀ k, k < 3 → wr.cell? ⟨g, j * 3 + k, none⟩ = some (secF x k) := fun k hk => by
          rw [HF.out.cell (j * 3 + k) (by omega), rowF_at F' j k hk, HS.out j (Nat.le_refl _), hx]
        obtain ⟨X, hX⟩ : ∃ X, X = secF x := ⟨_, rfl⟩
        rw [← hX] at hc
        have HC := Lib.hid hc
        have HXX := Lib.hid hX
        have HX1 := Lib.hid (show ∀ q, q < 3 → (X q).oneCell' = true by rw [hX]; exact secF_one x)
        have HXJ := Lib.hid hx
        clear hc hX hx
        go_upto_region 8 with (first
          | (refine wpList_load_cells rfl 77 _ rfl g (j * 3) rfl 3 X _ HC.out Try.underlying77 rfl sizeSec ?_)
          | (refine wpList_alloc_seg rfl 77 rfl 3 (secF Sc.zero) zeroSec ?_; intro w2 h2 hB2 hs2)
          | (refine wpList_store_all rfl 77 _ _ rfl wr.heap.size 77 3 _ X rfl rfl h2 sizeSec HX1.out ?_; intro w3 h3 hT3 hs3))
        obtain ⟨gb, hgb⟩ : ∃ gb, gb = wr.heap.size := ⟨_, rfl⟩
        rw [← hgb] at h2 hB2 h3 hT3 hs2 ⊢
        have hgne : g ≠ gb := by have := HF.out.lt; omega
        have hbw : Below wr.heap.size wr w3 := by rw [← hgb]; exact hB2.trans (hT3.below (Nat.le_refl _) (by have := hB2.size; omega))
        have HF3 := Lib.hid (HF.out.up hbw)
        have HT3 := Lib.hid (HT.out.trans (Touch.of_below (g := g) hbw))
        have HG := Lib.hid hgne
        have HV := Lib.hid h3
        clear h2 hB2 h3 hT3 hs2 hs3 hgb hbw hgne HC HF HT
        go_upto_region 8 with fail
        go_upto_if 29 with (first
          | (refine wpList_load_all rfl 77 _ rfl gb rfl 77 3 X _ HV.out Try.underlying77 rfl sizeSec ?_)
          | (go_at_call 40; rw [HXX.out]; refine (empty_any x _).mono ?_; rintro e w4 ⟨rfl, hB4⟩; rw [← HXX.out]))
        have HF4 := Lib.hid (HF3.out.up hB4)
        have HV4 := Lib.hid (HV.out.up hB4)
        have HT4 := Lib.hid (HT3.out.trans (Touch.of_below (g := g) hB4))
        clear hB4 HF3 HV HT3
        cases he : empty x
        · have HR := Lib.hid (show (List.range (i + 1)).map (fun q => if q = i then x else F' q) = ((List.range (j + 1)).map F).filter keep by
            rw [map_upd, range_filter_succ, HA'.out, ← HXJ.out]
            have : keep x = true := by unfold keep; rw [he]; rfl
            rw [this, if_pos rfl])
          have HSS := Lib.hid (show ∀ q, j + 1 ≤ q → (fun q => if q = i then x else F' q) q = F q from fun q hq => by
            show (if q = i then x else F' q) = F q
            rw [if_neg (by omega)]; exact HS.out q (by omega))
          clear he HS HA' HXJ
          go_wp2_with (first
            | (refine wpList_load_all rfl 77 _ rfl gb rfl 77 3 X _ HV4.out Try.underlying77 rfl sizeSec ?_)
            | (refine wpList_store_seg rfl 77 _ _ rfl g (i * 3) 77 (N * 3) 3 (rowF F') X rfl rfl HF4.out (by omega) sizeSec HX1.out ?_; intro w5 h5 hT5 hs5))
          go_roundw
          case rel =>
            rw [HXX.out] at h5
            exact ⟨i + 1, j + 1, fun q => if q = i then x else F' q, by go_num, by go_num, by omega, by omega, h5.congr (row_upd F' i x (N * 3)), HSS, HR, HT4.out.trans hT5⟩
          case measure => simp [intOf]; omega
        · have HR := Lib.hid (show (List.range i).map F' = ((List.range (j + 1)).map F).filter keep by
            rw [range_filter_succ, HA'.out, ← HXJ.out]
            have : keep x = false := by unfold keep; rw [he]; rfl
            rw [this, if_neg (by simp), List.append_nil])
          have HSS := Lib.hid (show ∀ q, j + 1 ≤ q → F' q = F q from fun q hq => HS.out q (by omega))
          clear he HS HA' HXJ
          go_wp2_with fail
          go_roundw
          case rel => exact ⟨i, j + 1, F', rfl, by go_num, by omega, by omega, HF4.out, HSS, HR, HT4.out⟩
          case measure => simp [intOf]; omega
      · obtain rfl : j = N := by omega
        have hcl : ∀ ty, (Builtin.clear_ #[54] ty #[.slice (some ⟨g, i * 3, none⟩) (j - i) (j - i)]).run Try.prog wr = .ok (.tuple #[]) (wr.setRow g (arr (j * 3) (updR (rowF F') (i * 3) ((j - i) * 3) fun k => secF Sc.zero (k % 3)))) := fun ty =>
          run_clear_seg wr 54 77 ty 3 (secF Sc.zero) Try.underlying54 zeroSec (by decide) (secF_one _) g (i * 3) (j - i) (j - i) (j * 3) 77 (rowF F') HF.out (by omega)
        have HFE := Lib.hid (show FB (wr.setRow g (arr (j * 3) (updR (rowF F') (i * 3) ((j - i) * 3) fun k => secF Sc.zero (k % 3)))) g 77 (j * 3) (rowF fun q => if q < i then F' q else Sc.zero) from (setRow_FB HF.out).congr fun k hk => by
          unfold updR rowF
          by_cases h : i * 3 ≤ k ∧ k < i * 3 + (j - i) * 3
          · have e : ¬ (k / 3 < i) := by omega
            simp only [if_pos h, if_neg e, show (k - i * 3) % 3 = k % 3 by omega]
          · have e : k / 3 < i := by omega
            simp only [if_neg h, if_pos e])
        have HTE := Lib.hid (HT.out.trans (setRow_touch wr g (arr (j * 3) (updR (rowF F') (i * 3) ((j - i) * 3) fun k => secF Sc.zero (k % 3)))))
        obtain ⟨wE, hwE⟩ : ∃ wE, wE = wr.setRow g (arr (j * 3) (updR (rowF F') (i * 3) ((j - i) * 3) fun k => secF Sc.zero (k % 3))) := ⟨_, rfl⟩
        rw [← hwE] at hcl HFE HTE
        have HME := Lib.hid (show (List.range i).map (fun q => if q < i then F' q else Sc.zero) = ((List.range j).map F).filter keep by
          rw [← HA'.out]
          exact List.map_congr_left fun q hq => if_pos (List.mem_range.1 hq))
        clear hwE hlt HF HT HS HA'
        go_wp2_with fail
        go_ret
        exact ⟨i, _, rfl, by omega, HFE.out, HME.out, HTE.out⟩
end Go.Proofs.Ytkfcfoidaalnlaa.Pak
