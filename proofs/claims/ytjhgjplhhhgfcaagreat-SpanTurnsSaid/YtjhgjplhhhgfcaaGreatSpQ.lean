/- Contracts of package span: answer. -/
import Derived.Test.YtjhgjplhhhgfcaaGreatSpP
import Derived.Laws.EntriesVeiled
namespace Go.Proofs.YtjhgjplhhhgfcaaGreat
open Go.ChangeShapes Go.WideShapes Go.ChangeAt Go.RowKit
open Spn
namespace Spc
set_option linter.unusedVariables false
set_option maxRecDepth 100000
theorem drop_at {L : List Rw} {k : Nat} {r : Rw} (h : L[k]? = some r) : L.drop k = r :: L.drop (k + 1) := by
  obtain ⟨h1, h2⟩ := List.getElem?_eq_some_iff.1 h
  rw [List.drop_eq_getElem_cons h1, h2]
theorem first_skip {L : List Rw} {k : Nat} {r : Rw} {s t : Int} {a b : E} (h : L[k]? = some r) (ht : (tells s r.a && tells t r.b) = false) : firstX (L.drop k) s t a b = firstX (L.drop (k + 1)) s t a b := by
  rw [drop_at h, firstX, ht]; rfl
theorem first_none {L : List Rw} {k : Nat} {r : Rw} {s t : Int} {a b : E} (h : L[k]? = some r) (ht : (tells s r.a && tells t r.b) = true) (hj : r.j a b = none) : firstX (L.drop k) s t a b = firstX (L.drop (k + 1)) s t a b := by
  rw [drop_at h, firstX, ht, hj]; rfl
theorem first_some {L : List Rw} {k : Nat} {r : Rw} {s t : Int} {a b u : E} (h : L[k]? = some r) (ht : (tells s r.a && tells t r.b) = true) (hj : r.j a b = some u) : firstX (L.drop k) s t a b = some u := by
  rw [drop_at h, firstX, ht, hj]; rfl
/-- the loop's memory -/
def AnsW (w0 : World) (op al ah bl bh : Int) (A : Option Addr) (n : Nat) (L : List Rw) (w : World) : Prop := JW w0 al ah bl bh w ∧ RowsAt w op (.slice A n n) L
theorem AnsW.up {w0 w w' : World} {op al ah bl bh : Int} {A : Option Addr} {n : Nat} {L : List Rw} (h : AnsW w0 op al ah bl bh A n L w) (hb : Below w.heap.size w w') : AnsW w0 op al ah bl bh A n L w' := ⟨h.1.up hb, h.2.up hb⟩
theorem AnsW.row {w0 w : World} {op al ah bl bh : Int} {A : Option Addr} {n k : Nat} {L : List Rw} {r : Rw} (h : AnsW w0 op al ah bl bh A n L w) (hk : L[k]? = some r) : ∃ g, A = some ⟨g, 0, none⟩ ∧ g < w.heap.size ∧ RowAt w op g k r := by
  obtain ⟨A', n', e, hl, h4, hr⟩ := h.2
  cases e
  exact hr k r hk
def q5 (q : Int) : Bool := q == 0 || q == 1 || q == 2 || q == 4 || q == 5
theorem q5_at {q : Int} (h : q5 q = true) : q = 0 ∨ q = 1 ∨ q = 2 ∨ q = 4 ∨ q = 5 := by
  unfold q5 at h
  simp only [Bool.or_eq_true, beq_iff_eq] at h
  omega
theorem rows_sig (op : Int) : ((rowsX op).all fun r => q5 r.a && q5 r.b) = true := by
  unfold rowsX
  by_cases h15 : op = 15
  · rw [if_pos h15]; rfl
  rw [if_neg h15]
  by_cases h1 : op = 1
  · rw [if_pos h1]; rfl
  rw [if_neg h1]
  by_cases h2 : op = 2
  · rw [if_pos h2]; rfl
  rw [if_neg h2]
  by_cases h3 : op = 3
  · rw [if_pos h3]; rfl
  rw [if_neg h3]
  by_cases h4 : op = 4
  · rw [if_pos h4]; rfl
  rw [if_neg h4]
  by_cases h5 : op = 5
  · rw [if_pos h5]; rfl
  rw [if_neg h5]
  by_cases h6 : op = 6
  · rw [if_pos h6]; rfl
  rw [if_neg h6]
  by_cases h7 : op = 7
  · rw [if_pos h7]; rfl
  rw [if_neg h7]
  by_cases h9 : op = 9
  · rw [if_pos h9]; rfl
  rw [if_neg h9]
  by_cases h8 : op = 8
  · rw [if_pos h8]; rfl
  rw [if_neg h8]
  by_cases h10 : op = 10
  · rw [if_pos h10]; rfl
  rw [if_neg h10]
  by_cases h11 : op = 11
  · rw [if_pos h11]; rfl
  rw [if_neg h11]
  by_cases h12 : op = 12
  · rw [if_pos h12]; rfl
  rw [if_neg h12]
  by_cases h13 : op = 13
  · rw [if_pos h13]; rfl
  rw [if_neg h13]
  rfl
theorem row_sig {op : Int} {k : Nat} {r : Rw} (h : (rowsX op)[k]? = some r) : (r.a = 0 ∨ r.a = 1 ∨ r.a = 2 ∨ r.a = 4 ∨ r.a = 5) ∧ (r.b = 0 ∨ r.b = 1 ∨ r.b = 2 ∨ r.b = 4 ∨ r.b = 5) := by
  have h1 := List.all_eq_true.1 (rows_sig op) r (List.mem_of_getElem? h)
  rw [Bool.and_eq_true] at h1
  exact ⟨q5_at h1.1, q5_at h1.2⟩
set_option maxHeartbeats 8000000 in
theorem answer_any (op al ah bl bh : Int) (ha : (⟨al, ah⟩ : E).ok) (hb : (⟨bl, bh⟩ : E).ok) (hd : (op = 11 ∨ op = 12 ∨ op = 13) → 0 ≤ bl ∧ bh ≤ 63) (w : World) :
    Calls Tryz.prog 44 #[.int .i64 op, .agg #[.int .i64 al, .int .i64 ah], .agg #[.int .i64 bl, .int .i64 bh]] w (RetJ w (answerX op ⟨al, ah⟩ ⟨bl, bh⟩)) := by
  have H0 := Lib.hid ((JW.start w al ah bl bh (.int .i64 0) (.int .i64 0)).drew)
  have HR := Lib.hid (fun w => rows_any op w)
  have HA := Lib.hid ha
  have HB := Lib.hid hb
  have HD := Lib.hid hd
  clear ha hb hd
  go_enter Tryz.func44, Tryz.ntmps44
  go_wp2_with fail
  go_region_held3 (fun w' => w'.cell? ⟨w.heap.size, 0, none⟩ = some (.int .i64 al) ∧ w'.cell? ⟨w.heap.size, 1, none⟩ = some (.int .i64 ah) ∧ w'.cell? ⟨w.heap.size + 1, 0, none⟩ = some (.int .i64 bl) ∧ w'.cell? ⟨w.heap.size + 1, 1, none⟩ = some (.int .i64 bh) ∧ JW w al ah bl bh w')
    (first | with_reducible exact jS H0.out | with_reducible exact jS HWa.out | with_reducible exact jS HWb.out)
    (first | (go_at_call 68; refine (signs_any _ _ _).mono ?_; rintro e w1 ⟨rfl, hB⟩; have HWa := Lib.hid (H0.out.up hB); clear hB) | (go_at_call 68; refine (signs_any _ _ _).mono ?_; rintro e w2 ⟨rfl, hB⟩; have HWb := Lib.hid (HWa.out.up hB); clear hB))
  all_goals
    rename_i hh
    clear hh
    have hsm := sgX_mem ⟨al, ah⟩
    have htm := sgX_mem ⟨bl, bh⟩
    generalize hsa : sgX ⟨al, ah⟩ = s at hsm ⊢
    generalize hsb : sgX ⟨bl, bh⟩ = t at htm ⊢
    have HSA := Lib.hid hsa
    have HSB := Lib.hid hsb
    have HSM := Lib.hid hsm
    have HTM := Lib.hid htm
    clear hsa hsb hsm htm HWa H0
    go_wp2_with fail
    refine (HR.out _).mono ?_
    rintro e w3 ⟨v, rfl, ⟨A, n, rfl, hl, h4, hrow⟩, hB⟩
    have hW : AnsW w op al ah bl bh A n (rowsX op) w3 := ⟨HWb.out.up hB, ⟨A, n, rfl, hl, h4, hrow⟩⟩
    have HW0 := Lib.hid hW
    have HL := Lib.hid hl
    have hr0 : firstX ((rowsX op).drop 0) s t ⟨al, ah⟩ ⟨bl, bh⟩ = answerX op ⟨al, ah⟩ ⟨bl, bh⟩ := by unfold answerX; rw [HSA.out, HSB.out]; rfl
    have HR0 := Lib.hid hr0
    clear hr0 hW hB hrow hl HWb HR
    go_wp2_with fail
    go_loopw [21] (fun i wr => ∃ k : Nat, k ≤ n ∧ i = .int .i64 k ∧ firstX ((rowsX op).drop k) s t ⟨al, ah⟩ ⟨bl, bh⟩ = answerX op ⟨al, ah⟩ ⟨bl, bh⟩ ∧ AnsW w op al ah bl bh A n (rowsX op) wr) (fun i _ => (n - intOf i).toNat)
    case atStart => exact ⟨0, by omega, rfl, HR0.out, HW0.out⟩
    case round =>
      clear HW0 HR0
      obtain ⟨k, hk, rfl, hR, hW⟩ := hrel
      have HRl := Lib.hid hR
      have HW := Lib.hid hW
      clear hR hW
      by_cases hlt : k < n
      · obtain ⟨r, hrk⟩ : ∃ r, (rowsX op)[k]? = some r := ⟨_, List.getElem?_eq_getElem (by rw [HL.out]; exact hlt)⟩
        have HK := Lib.hid hrk
        obtain ⟨g, rfl, hg, vj, q0, q1, q2, hj⟩ := HW.out.row hrk
        obtain ⟨sa, sb⟩ := row_sig hrk
        have HTA := Lib.hid (fun w => tell_any s r.a HSM.out sa w)
        have HTB := Lib.hid (fun w => tell_any t r.b HTM.out sb w)
        obtain ⟨a0, a1, b0, b1, -⟩ := jS HW.out.1
        have hla : w.heap.size < wr.heap.size := HW.out.1.1.lt
        have hlb : w.heap.size + 1 < wr.heap.size := HW.out.1.2.1.lt
        rw [Nat.mul_comm] at q0 q1 q2
        obtain ⟨K, cap, rfl, hen, hc⟩ := hj
        have HWn := Lib.hid (HW.out.up (below_box' wr (.cells #[.int .i64 r.a, .int .i64 r.b, .func (.func K) #[] cap] 97)))
        clear sa sb hrk
        cases hta : tells s r.a with
        | false =>
          rw [hta] at HTA
          have HS := Lib.hid (first_skip (s := s) (t := t) (a := ⟨al, ah⟩) (b := ⟨bl, bh⟩) HK.out (by rw [hta]; rfl))
          clear hta HTB hc
          go_wp2_with fail
          refine (HTA.out _).mono ?_
          rintro e w' ⟨rfl, rfl⟩
          go_wp2_with fail
          go_roundw
          case rel => exact ⟨k + 1, by omega, by go_num, by rw [← HS.out]; exact HRl.out, HWn.out⟩
          case measure => simp [intOf]; omega
        | true =>
          rw [hta] at HTA
          cases htb : tells t r.b with
          | false =>
            rw [htb] at HTB
            have HS := Lib.hid (first_skip (s := s) (t := t) (a := ⟨al, ah⟩) (b := ⟨bl, bh⟩) HK.out (by rw [hta, htb]; rfl))
            clear hta htb hc
            go_wp2_with fail
            refine (HTA.out _).mono ?_
            rintro e w' ⟨rfl, rfl⟩
            go_wp2_with fail
            refine (HTB.out _).mono ?_
            rintro e w' ⟨rfl, rfl⟩
            go_wp2_with fail
            go_roundw
            case rel => exact ⟨k + 1, by omega, by go_num, by rw [← HS.out]; exact HRl.out, HWn.out⟩
            case measure => simp [intOf]; omega
          | true =>
            rw [htb] at HTB
            have HC := Lib.hid (hc (wr.alloc (.cells #[.int .i64 r.a, .int .i64 r.b, .func (.func K) #[] cap] 97)) (below_box' wr _) al ah bl bh HA.out HB.out ⟨by rw [HSA.out]; exact hta, by rw [HSB.out]; exact htb, HD.out⟩)
            cases hjo : r.j ⟨al, ah⟩ ⟨bl, bh⟩ with
            | none =>
              rw [hjo] at HC
              have HS := Lib.hid (first_none (s := s) (t := t) (a := ⟨al, ah⟩) (b := ⟨bl, bh⟩) HK.out (by rw [hta, htb]; rfl) hjo)
              clear hta htb hjo hc
              go_wp2_with fail
              refine (HTA.out _).mono ?_
              rintro e w' ⟨rfl, rfl⟩
              go_wp2_with fail
              refine (HTB.out _).mono ?_
              rintro e w' ⟨rfl, rfl⟩
              go_wp2_with fail
              refine HC.out.mono ?_
              rintro e w4 ⟨rl, rh, rfl, -, hB⟩
              have HWx := Lib.hid ((HWn.out.up hB).up (below_box' w4 (.cells #[.int .i64 rl, .int .i64 rh] 30)))
              clear hB HC hen
              go_wp2_with fail
              go_roundw
              case rel => exact ⟨k + 1, by omega, by go_num, by rw [← HS.out]; exact HRl.out, HWx.out⟩
              case measure => simp [intOf]; omega
            | some u =>
              rw [hjo] at HC
              have HS := Lib.hid (first_some (s := s) (t := t) (a := ⟨al, ah⟩) (b := ⟨bl, bh⟩) HK.out (by rw [hta, htb]; rfl) hjo)
              clear hta htb hjo hc
              go_wp2_with fail
              refine (HTA.out _).mono ?_
              rintro e w' ⟨rfl, rfl⟩
              go_wp2_with fail
              refine (HTB.out _).mono ?_
              rintro e w' ⟨rfl, rfl⟩
              go_wp2_with fail
              refine HC.out.mono ?_
              rintro e w4 ⟨rl, rh, rfl, hv, hB⟩
              have HV := Lib.hid (hv u rfl)
              have HWx := Lib.hid (HWn.out.up hB)
              clear a0 a1 b0 b1 q0 q1 q2 hg hla hlb
              obtain ⟨⟨x, y, c0, c1⟩, c2, c3, c4⟩ := jR HWx.out.1
              clear hB HC hen hv
              go_wp2_with fail
              refine bodyPost_ret (v := .tuple #[.agg #[.int .i64 _, .int .i64 _], .bool _]) (results_cell_tmp Tryz.results44 _ _ (w.heap.size + 2) 30 #[.int .i64 _, .int .i64 _] (0, 0) _ _ rfl rfl ((HWx.out.1.res _ _).alloc _) Tryz.underlying30 rfl (by kernel_rfl)) rfl ?_
              rw [← HRl.out, HS.out, HV.out]
              exact retJ_some (nx (HWx.out.1.set _ _).2.2.2 (below_box' _ _)) rfl rfl
      · obtain rfl : k = n := by omega
        have HE := Lib.hid (show firstX ((rowsX op).drop k) s t ⟨al, ah⟩ ⟨bl, bh⟩ = none by rw [List.drop_eq_nil_of_le (by rw [HL.out]; exact Nat.le_refl _)]; rfl)
        obtain ⟨⟨x, y, c0, c1⟩, c2, c3, c4⟩ := jR HW.out.1
        go_wp2_with fail
        refine bodyPost_ret (v := .tuple #[.agg #[.int .i64 _, .int .i64 _], .bool _]) (results_cell_tmp Tryz.results44 _ _ (w.heap.size + 2) 30 #[.int .i64 _, .int .i64 _] (0, 0) _ _ rfl rfl (HW.out.1.res _ _) Tryz.underlying30 rfl (by kernel_rfl)) rfl ?_
        rw [← HRl.out, HE.out]
        exact retJ_none (HW.out.1.set _ _).2.2.2
end Spc
end Go.Proofs.YtjhgjplhhhgfcaaGreat
