/- The law's Reach, Extend. -/
import Derived.Test.YtockoolcdhgopaaZoneM8
import Derived.Test.YtockoolcdhgopaaZW
import Derived.Test.YtockoolcdhgopaaZX
namespace Go.Proofs.Ytockoolcdhgopaa
open Go.ChangeShapes Go.WideShapes Go.ChangeAt Go.RowKit
open Zon
set_option linter.unusedVariables false
set_option maxRecDepth 100000
/-- sixty truth values in a block -/
def BitAt (w : World) (g : Nat) (a : Nat → Bool) : Prop := FB w g 4 60 (fun q => .bool (a q))
theorem BitAt.up {w w' : World} {g : Nat} {a : Nat → Bool} (h : BitAt w g a) (hb : Below w.heap.size w w') : BitAt w' g a := FB.up h hb
theorem BitAt.at_ {w : World} {g : Nat} {a : Nat → Bool} (h : BitAt w g a) (q : Nat) (hq : q < 60) : w.cell? ⟨g, q, none⟩ = some (.bool (a q)) := FB.cell h q hq
theorem BitAt.congr {w : World} {g : Nat} {a b : Nat → Bool} (h : BitAt w g a) (e : ∀ q, q < 60 → a q = b q) : BitAt w g b := FB.congr h fun k hk => by simp only [e k hk]
theorem BitAt.set {w : World} {g : Nat} {a : Nat → Bool} (h : BitAt w g a) (x : Nat) (v : Bool) : BitAt (w.setCell ⟨g, x, none⟩ (.bool v)) g (fun q => if q = x then v else a q) :=
  FB.congr (FB.set_ h x (.bool v)) fun k _ => by
    show upd (fun q => Value.bool (a q)) x (.bool v) k = Value.bool (if k = x then v else a k)
    unfold upd
    by_cases e : k = x
    · rw [if_pos e, if_pos e]
    · rw [if_neg e, if_neg e]
theorem make60b (w : World) : (Instr.makeSlice 100 (.int .i64 60) (.int .i64 60)).run Try.prog w = .ok (.slice (some ⟨w.heap.size, 0, none⟩) 60 60) (w.alloc (.cells (arr 60 fun _ => .bool false) 4)) := by kernel_rfl
theorem wpList_make60b {ops : Array Oper} {rest : List Oper} {o : Oper} {a : Act} {w : World} {Q : Exit → Act → World → Prop} (hgd : o.guard = none) (x y : Operand) (ho : o.op = .makeSlice 100 x y)
    (hx : a.eval x = .int .i64 60) (hy : a.eval y = .int .i64 60)
    (h : ∀ w', BitAt w' w.heap.size (fun _ => false) → Below w.heap.size w w' → w'.heap.size = w.heap.size + 1 → wpList Try.prog ops Q rest (a.put o.dst (vecV w.heap.size)) w') : wpList Try.prog ops Q (o :: rest) a w :=
  wpList_plain hgd fun _ hK => by
    unfold Oper.wp execOp
    simp only [ho, hx, hy, Sem.run_bind, make60b w, Result.andThen_ok, Sem.run_pure]
    exact hK _ _ (h _ (FB.new w _ 60 _) ((Below.refl _ _).alloc (Nat.le_refl _) _) (by simp))
theorem set_new {w wr : World} {g : Nat} {i : Nat} {v : Value} (hg : w.heap.size ≤ g) (h : Below w.heap.size w wr) : Below w.heap.size w (wr.setCell ⟨g, i, none⟩ v) := h.trans ((Touch.set_ wr i v).below hg h.size)
set_option maxHeartbeats 1000000 in
theorem Reach_any (w : World) (g : Nat) (M : Tab) (i : Int) (j : Nat) (hz : ZoneAt w g (some M)) (hj : j < 60) :
    Calls Try.prog 41 #[.pointer (some ⟨g, 0, none⟩), .int .i64 i, .int .i64 j] w (Vec w (reachV M j)) := by
  have HC := Lib.hid (reach_any w g M i j hz hj)
  clear hz
  go_enter Try.func41, Try.ntmps41
  go_wp2_with fail
  go_at_call 72
  refine HC.out.mono ?_
  rintro e w2 ⟨g2, rfl, hg, hv, hB⟩
  have HV := Lib.hid hv
  have HB := Lib.hid hB
  have HG := Lib.hid hg
  clear hv hB hg HC
  go_wp2_with fail
  go_ret
  exact ⟨g2, rfl, HG.out, HV.out, HB.out⟩
set_option maxHeartbeats 8000000 in
theorem extend_any (w : World) (g ga : Nat) (M : Tab) (a : Nat → Int) (A : Option Addr) (n c : Nat) (L : List Int) (hz : ZoneAt w g (some M)) (ha : VecAt w ga a) (hL : L.length = n) (hn : n ≤ 17592186044416) (hA : NumsAt w A L)
    (hM : Tight M) (hi : ExtInv M a (openB L) 1) :
    Calls Try.prog 42 #[.pointer (some ⟨g, 0, none⟩), vecV ga, .slice A n c] w (fun e w' => ∃ g', e = .returned (.tuple #[vecV g', .bool true]) ∧ Below w.heap.size w w') := by
  have HZ := Lib.hid hz
  have HV := Lib.hid ha
  have HL := Lib.hid hL
  have HA := Lib.hid hA
  have HM := Lib.hid hM
  have HI := Lib.hid hi
  have v0 := ha.at_ 0 (by omega)
  clear hz ha hL hA hM hi
  go_enter Try.func42, Try.ntmps42
  go_wp2_with fail
  go_at_call 17
  refine (with_any w ga a 0 (a 0) HV.out (by omega)).mono ?_
  rintro e w1 ⟨gb, rfl, hg, hv, hB⟩
  have HVb := Lib.hid (hv.congr (b := a) fun q _ => by unfold updI; split; (rename_i e; rw [e]); rfl)
  have HB1 := Lib.hid hB
  have HGB := Lib.hid hg
  clear hg hv hB v0
  go_upto_region 3 with (refine wpList_make60b rfl _ _ rfl rfl rfl ?_; intro w2 hb2 hB2 hs2)
  obtain ⟨go, hgo⟩ : ∃ go, go = w1.heap.size := ⟨_, rfl⟩
  rw [← hgo] at hb2 ⊢
  have HGO := Lib.hid (show w.heap.size ≤ go by have := HB1.out.size; omega)
  have HNE := Lib.hid (show gb ≠ go by have := HVb.out.lt; omega)
  have HB2 := Lib.hid (HB1.out.trans (hB2.mono HB1.out.size))
  have HVb2 := Lib.hid (HVb.out.up hB2)
  have Hb2 := Lib.hid hb2
  clear hgo hb2 hB2 hs2 HVb
  go_wp2_with fail
  go_loopw [10] (fun i wr => ∃ k : Nat, k ≤ n ∧ i = .int .i64 k ∧ VecAt wr gb a ∧ BitAt wr go (openB (L.take k)) ∧ Below w.heap.size w wr) (fun i _ => (n - intOf i).toNat)
  case atStart => exact ⟨0, by omega, rfl, HVb2.out, Hb2.out.congr fun q _ => rfl, HB2.out⟩
  case round =>
    clear HVb2 Hb2 HB2
    obtain ⟨k, hk, rfl, hV, hO, hB⟩ := hrel
    have hk0 : (0 : Int) ≤ k := by omega
    by_cases hlt : k < n
    · have hlt' : (k : Int) < n := by omega
      obtain ⟨b, off, rfl, hbl, hc⟩ := HA.out (by have := HL.out; omega)
      obtain ⟨x, hx⟩ : ∃ x, L[k]? = some x := ⟨L[k]'(by have := HL.out; omega), List.getElem?_eq_getElem _⟩
      have x0 : wr.cell? ⟨b, off + k, none⟩ = some (.int .i64 x) := (hB.cell (p := ⟨b, off + k, none⟩) hbl).trans (hc k x hx)
      have HSN := Lib.hid (show ∀ q, openB (L.take (k + 1)) q = (openB (L.take k) q || (renewB x && (x.toNat == q))) from fun q => by rw [take_next L k x hx, openB_snoc])
      have HV2 := Lib.hid hV
      have HO := Lib.hid hO
      have HB := Lib.hid hB
      have HLT := Lib.hid hlt
      clear hV hO hB hbl hc hx hlt
      cases hr : renewB x
      · have HO2 := Lib.hid (HO.out.congr (b := openB (L.take (k + 1))) fun q _ => by rw [HSN.out, hr]; simp)
        have hsp : decide (1 ≤ x) = false ∨ (decide (1 ≤ x) = true ∧ decide (x < 60) = false) := by
          unfold renewB at hr
          cases e : decide (1 ≤ x)
          · exact .inl rfl
          · rw [e] at hr; exact .inr ⟨rfl, hr⟩
        clear hr
        rcases hsp with h1 | ⟨h1, h2⟩
        all_goals
          go_wp2_with fail
          go_roundw
          case rel => exact ⟨k + 1, by have := HLT.out; omega, by go_num, HV2.out, HO2.out, HB.out⟩
          case measure => simp [intOf]; omega
      · obtain ⟨nv, rfl, hnv, hn1⟩ := renewB_nat hr
        have h1 : (1 : Int) ≤ nv := by omega
        have h2 : (nv : Int) < 60 := by omega
        have h3 : (0 : Int) ≤ nv := by omega
        have y0 := HO.out.at_ nv hnv
        have f0 := FB.frozen HO.out nv
        have HO2 := Lib.hid ((HO.out.set nv true).congr (b := openB (L.take (k + 1))) fun q _ => by
          rw [HSN.out, hr]
          by_cases e : q = nv
          · rw [if_pos e, e]; simp
          · rw [if_neg e]; simp; omega)
        have HV3 := Lib.hid (show VecAt (wr.setCell ⟨go, nv, none⟩ (.bool true)) gb a from FB.far HV2.out HNE.out _)
        have HB2 := Lib.hid (set_new (i := nv) (v := .bool true) HGO.out HB.out)
        clear hr hnv hn1
        go_wp2_with fail
        go_roundw
        case rel => exact ⟨k + 1, by have := HLT.out; omega, by go_num, HV3.out, HO2.out, HB2.out⟩
        case measure => simp [intOf]; omega
    · obtain rfl : k = n := by omega
      have hjn : decide ((k : Int) < k) = false := decide_eq_false (by omega)
      rw [List.take_of_length_le (by rw [HL.out]; omega)] at hO
      have HV2 := Lib.hid hV
      have HO := Lib.hid hO
      have HB := Lib.hid hB
      clear hV hO hB
      go_wp2_with fail
      go_loopw [11] (fun i wr => ∃ x : Nat, 1 ≤ x ∧ x ≤ 60 ∧ i = .int .i64 x ∧ (∃ b op, VecAt wr gb b ∧ BitAt wr go op ∧ ExtInv M b op x) ∧ Below w.heap.size w wr) (fun i _ => (60 - intOf i).toNat)
      case atStart => exact ⟨1, by omega, by omega, rfl, ⟨a, openB L, HV2.out, HO.out, HI.out⟩, HB.out⟩
      case round =>
        clear HV2 HO HB
        obtain ⟨x, hx1, hx, rfl, ⟨b, op, hV, hO, hE⟩, hB⟩ := hrel
        have hx0 : (0 : Int) ≤ x := by omega
        by_cases hlt : x < 60
        · have hlt' : (x : Int) < 60 := by omega
          have HV2 := Lib.hid hV
          have HO := Lib.hid hO
          have HB := Lib.hid hB
          have HE := Lib.hid hE
          have y0 := hO.at_ x hlt
          have HLT := Lib.hid hlt
          clear hV hO hB hE hlt
          cases hop : op x
          · rw [hop] at y0
            have HE2 := Lib.hid (HE.out.skip hop)
            clear hop
            go_wp2_with fail
            go_roundw
            case rel => exact ⟨x + 1, by omega, by have := HLT.out; omega, by go_num, ⟨b, op, HV2.out, HO.out, HE2.out⟩, HB.out⟩
            case measure => simp [intOf]; omega
          · rw [hop] at y0
            have HZ2 := Lib.hid (HZ.out.up HB.out)
            have HOP := Lib.hid hop
            clear hop
            go_upto_region 15 with (fail)
            clear y0
            go_wp2_with fail
            obtain ⟨wo, rfl⟩ : ∃ wo : World, wo = wr := ⟨_, rfl⟩
            go_loopw [14, 12, 13] (fun i lo hi wi => ∃ k : Nat, k ≤ 60 ∧ i = .int .i64 k ∧ lo = .int .i64 (lowK M b op x k) ∧ hi = .int .i64 (highK M b op x k) ∧ Below wo.heap.size wo wi) (fun i _ _ _ => (60 - intOf i).toNat)
            case atStart => exact ⟨0, by omega, rfl, rfl, rfl, Below.refl _ _⟩
            case round =>
              obtain ⟨k, hk, rfl, rfl, rfl, hBi⟩ := hrel
              have hk0 : (0 : Int) ≤ k := by omega
              by_cases hkt : k < 60
              · have hk1 : (k : Int) < 60 := by omega
                have HBi := Lib.hid hBi
                have z0 := (HO.out.up hBi).at_ k hkt
                have HRL := Lib.hid (show lowK M b op x (k + 1) = if k = x ∨ op k = true then lowK M b op x k else if M k x = 3458764513820540928 then lowK M b op x k else if lowK M b op x k < b k - M k x then b k - M k x else lowK M b op x k from rfl)
                have HRH := Lib.hid (show highK M b op x (k + 1) = if k = x ∨ op k = true then highK M b op x k else if M x k = 3458764513820540928 then highK M b op x k else if b k + M x k < highK M b op x k then b k + M x k else highK M b op x k from rfl)
                have HKT := Lib.hid hkt
                clear hBi hkt
                by_cases hkx : k = x
                · have t1 : ((k : Int) == (x : Int)) = true := by rw [hkx]; exact beq_self_eq_true _
                  have HL2 := Lib.hid (HRL.out.trans (if_pos (.inl hkx)))
                  have HH2 := Lib.hid (HRH.out.trans (if_pos (.inl hkx)))
                  clear hkx HRL HRH
                  go_wp2_with fail
                  go_roundw
                  case rel => exact ⟨k + 1, by have := HKT.out; omega, by go_num, by rw [HL2.out], by rw [HH2.out], HBi.out⟩
                  case measure => simp [intOf]; omega
                · have t1 : ((k : Int) == (x : Int)) = false := by rw [beq_eq_false_iff_ne]; omega
                  cases hok : op k
                  rotate_left
                  · rw [hok] at z0
                    have HL2 := Lib.hid (HRL.out.trans (if_pos (.inr hok)))
                    have HH2 := Lib.hid (HRH.out.trans (if_pos (.inr hok)))
                    clear hkx hok HRL HRH
                    go_wp2_with fail
                    go_roundw
                    case rel => exact ⟨k + 1, by have := HKT.out; omega, by go_num, by rw [HL2.out], by rw [HH2.out], HBi.out⟩
                    case measure => simp [intOf]; omega
                  · rw [hok] at z0
                    have hno : ¬ (k = x ∨ op k = true) := by rw [hok]; simp [hkx]
                    have HL2 := Lib.hid (HRL.out.trans (if_neg hno))
                    have HH2 := Lib.hid (HRH.out.trans (if_neg hno))
                    have HBU := Lib.hid (fun W (hW : Below wo.heap.size wo W) => Bound_at W g x k M (HZ2.out.up hW) HLT.out HKT.out)
                    have HBD := Lib.hid (fun W (hW : Below wo.heap.size wo W) => Bound_at W g k x M (HZ2.out.up hW) HKT.out HLT.out)
                    have hbk := HE.out.rng k HKT.out
                    have bu := HM.out.bd x k HLT.out HKT.out
                    have bd := HM.out.bd k x HKT.out HLT.out
                    have hlo := lowK_min (M := M) (b := b) (op := op) (x := x) k
                    have hhi := highK_max (M := M) (b := b) (op := op) (x := x) k
                    have hlh := HE.out.low_high HM.out HLT.out k k (by have := HKT.out; omega) (by have := HKT.out; omega)
                    have HVi := Lib.hid (HV2.out.up HBi.out)
                    clear hno hkx hok HRL HRH
                    obtain ⟨mu, hmu⟩ : ∃ mu, mu = M x k := ⟨_, rfl⟩
                    obtain ⟨md, hmd⟩ : ∃ md, md = M k x := ⟨_, rfl⟩
                    obtain ⟨bk, hbb⟩ : ∃ bk, bk = b k := ⟨_, rfl⟩
                    obtain ⟨lv, hlv⟩ : ∃ lv, lv = lowK M b op x k := ⟨_, rfl⟩
                    obtain ⟨hv, hhv⟩ : ∃ hv, hv = highK M b op x k := ⟨_, rfl⟩
                    have HBK := Lib.hid hbb
                    rw [← hmu] at bu HH2 HBU
                    rw [← hmd] at bd HL2 HBD
                    rw [← hbb] at hbk HL2 HH2
                    rw [← hlv] at hlo hlh HL2 ⊢
                    rw [← hhv] at hhi hlh HH2 ⊢
                    obtain ⟨hb1, hb2⟩ := hbk
                    have hb3 : -20000000000000000 ≤ bk := by omega
                    have hb4 : bk ≤ 20000000000000000 := by omega
                    clear hmu hmd hbb hlv hhv hb1 hb2 hlh
                    by_cases hu : mu = 3458764513820540928
                    ·
                      by_cases hd : md = 3458764513820540928
                      ·
                        go_upto_region 18 with (fail)
                        clear z0
                        go_wp2_with fail
                        go_at_call 18
                        refine (HBU.out _ HBi.out).mono ?_
                        rintro e W1 ⟨rfl, hW1⟩
                        rw [show bv (bnd mu) = .agg #[.bool false, .int .i64 0] by unfold bnd; rw [if_pos hu]; rfl]
                        have HB1 := Lib.hid (HBi.out.trans (hW1.mono HBi.out.size))
                        clear hW1
                        go_upto_region 19 with (fail)
                        have hub := Blk.new W1 38 #[.bool false, .int .i64 0]
                        have HB2 := Lib.hid (HB1.out.trans ((below_box W1 (.cells #[.bool false, .int .i64 0] 38)).mono HB1.out.size))
                        generalize W1.alloc (.cells #[.bool false, .int .i64 0] 38) = W2 at *
                        generalize W1.heap.size = gu at *
                        have HUB := Lib.hid hub
                        clear hub HB1
                        go_wp2_with fail
                        go_at_call 18
                        refine (HBD.out _ HB2.out).mono ?_
                        rintro e W3 ⟨rfl, hW3⟩
                        rw [show bv (bnd md) = .agg #[.bool false, .int .i64 0] by unfold bnd; rw [if_pos hd]; rfl]
                        have HUB3 := Lib.hid (HUB.out.below hW3 HUB.out.lt)
                        have HB3 := Lib.hid (HB2.out.trans (hW3.mono HB2.out.size))
                        clear hW3 HUB HB2
                        go_upto_region 20 with (fail)
                        have hdb := Blk.new W3 38 #[.bool false, .int .i64 0]
                        have hbox := below_box W3 (.cells #[.bool false, .int .i64 0] 38)
                        have HB4 := Lib.hid (HB3.out.trans (hbox.mono HB3.out.size))
                        have hub4 := HUB3.out.below hbox HUB3.out.lt
                        generalize W3.alloc (.cells #[.bool false, .int .i64 0] 38) = W4 at *
                        generalize W3.heap.size = gd at *
                        have u0 : W4.cell? ⟨gu, 0, none⟩ = some (.bool false) := hub4.cell 0
                        have d0 : W4.cell? ⟨gd, 0, none⟩ = some (.bool false) := hdb.cell 0
                        have b0 := (HV2.out.up HB4.out).at_ k HKT.out
                        rw [← HBK.out] at b0
                        clear hub4 hdb hbox HUB3 HB3 HBU HBD
                        have HLN := Lib.hid (show lowK M b op x (k + 1) = lv from by rw [HL2.out]; exact if_pos hd)
                        have HHN := Lib.hid (show highK M b op x (k + 1) = hv from by rw [HH2.out]; exact if_pos hu)
                        clear HL2 HH2 hu hd
                        go_wp2_with fail
                        go_quiet (fail)
                        obtain ⟨W5, hWn⟩ : ∃ WW, WW = W4.drewN nq := ⟨_, rfl⟩
                        rw [← hWn]
                        replace u0 : W5.cell? ⟨gu, 0, none⟩ = some (.bool false) := by rw [hWn]; exact u0
                        replace d0 : W5.cell? ⟨gd, 0, none⟩ = some (.bool false) := by rw [hWn]; exact d0
                        replace b0 : W5.cell? ⟨gb, k, none⟩ = some (.int .i64 bk) := by rw [hWn]; exact b0
                        have HB5 := Lib.hid (show Below wo.heap.size wo W5 by rw [hWn]; exact below_drewN' HB4.out nq)
                        clear hWn HB4
                        go_wp2_with fail
                        go_quiet (fail)
                        obtain ⟨W6, hWn⟩ : ∃ WW, WW = W5.drewN nq := ⟨_, rfl⟩
                        rw [← hWn]
                        replace u0 : W6.cell? ⟨gu, 0, none⟩ = some (.bool false) := by rw [hWn]; exact u0
                        replace d0 : W6.cell? ⟨gd, 0, none⟩ = some (.bool false) := by rw [hWn]; exact d0
                        replace b0 : W6.cell? ⟨gb, k, none⟩ = some (.int .i64 bk) := by rw [hWn]; exact b0
                        have HB6 := Lib.hid (show Below wo.heap.size wo W6 by rw [hWn]; exact below_drewN' HB5.out nq)
                        clear hWn HB5
                        go_wp2_with fail
                        go_roundw
                        case rel => exact ⟨k + 1, by have := HKT.out; omega, by go_num, by rw [HLN.out], by rw [HHN.out], HB6.out⟩
                        case measure => simp [intOf]; omega
                      ·
                        obtain ⟨bd1, bd2⟩ := bd hd
                        clear bd
                        by_cases td : lv < bk - md
                        ·
                          go_upto_region 18 with (fail)
                          clear z0
                          go_wp2_with fail
                          go_at_call 18
                          refine (HBU.out _ HBi.out).mono ?_
                          rintro e W1 ⟨rfl, hW1⟩
                          rw [show bv (bnd mu) = .agg #[.bool false, .int .i64 0] by unfold bnd; rw [if_pos hu]; rfl]
                          have HB1 := Lib.hid (HBi.out.trans (hW1.mono HBi.out.size))
                          clear hW1
                          go_upto_region 19 with (fail)
                          have hub := Blk.new W1 38 #[.bool false, .int .i64 0]
                          have HB2 := Lib.hid (HB1.out.trans ((below_box W1 (.cells #[.bool false, .int .i64 0] 38)).mono HB1.out.size))
                          generalize W1.alloc (.cells #[.bool false, .int .i64 0] 38) = W2 at *
                          generalize W1.heap.size = gu at *
                          have HUB := Lib.hid hub
                          clear hub HB1
                          go_wp2_with fail
                          go_at_call 18
                          refine (HBD.out _ HB2.out).mono ?_
                          rintro e W3 ⟨rfl, hW3⟩
                          rw [show bv (bnd md) = .agg #[.bool true, .int .i64 md] by unfold bnd; rw [if_neg hd]; rfl]
                          have HUB3 := Lib.hid (HUB.out.below hW3 HUB.out.lt)
                          have HB3 := Lib.hid (HB2.out.trans (hW3.mono HB2.out.size))
                          clear hW3 HUB HB2
                          go_upto_region 20 with (fail)
                          have hdb := Blk.new W3 38 #[.bool true, .int .i64 md]
                          have hbox := below_box W3 (.cells #[.bool true, .int .i64 md] 38)
                          have HB4 := Lib.hid (HB3.out.trans (hbox.mono HB3.out.size))
                          have hub4 := HUB3.out.below hbox HUB3.out.lt
                          generalize W3.alloc (.cells #[.bool true, .int .i64 md] 38) = W4 at *
                          generalize W3.heap.size = gd at *
                          have u0 : W4.cell? ⟨gu, 0, none⟩ = some (.bool false) := hub4.cell 0
                          have d0 : W4.cell? ⟨gd, 0, none⟩ = some (.bool true) := hdb.cell 0
                          have d1 : W4.cell? ⟨gd, 1, none⟩ = some (.int .i64 md) := hdb.cell 1
                          have b0 := (HV2.out.up HB4.out).at_ k HKT.out
                          rw [← HBK.out] at b0
                          clear hub4 hdb hbox HUB3 HB3 HBU HBD
                          have HLN := Lib.hid (show lowK M b op x (k + 1) = bk - md from by rw [HL2.out]; rw [if_neg hd]; exact if_pos td)
                          have HHN := Lib.hid (show highK M b op x (k + 1) = hv from by rw [HH2.out]; exact if_pos hu)
                          replace td := decide_eq_true td
                          clear HL2 HH2 hu hd
                          go_wp2_with fail
                          go_quiet (fail)
                          obtain ⟨W5, hWn⟩ : ∃ WW, WW = W4.drewN nq := ⟨_, rfl⟩
                          rw [← hWn]
                          replace u0 : W5.cell? ⟨gu, 0, none⟩ = some (.bool false) := by rw [hWn]; exact u0
                          replace d0 : W5.cell? ⟨gd, 0, none⟩ = some (.bool true) := by rw [hWn]; exact d0
                          replace b0 : W5.cell? ⟨gb, k, none⟩ = some (.int .i64 bk) := by rw [hWn]; exact b0
                          replace d1 : W5.cell? ⟨gd, 1, none⟩ = some (.int .i64 md) := by rw [hWn]; exact d1
                          have HB5 := Lib.hid (show Below wo.heap.size wo W5 by rw [hWn]; exact below_drewN' HB4.out nq)
                          clear hWn HB4
                          go_wp2_with fail
                          go_quiet (fail)
                          obtain ⟨W6, hWn⟩ : ∃ WW, WW = W5.drewN nq := ⟨_, rfl⟩
                          rw [← hWn]
                          replace u0 : W6.cell? ⟨gu, 0, none⟩ = some (.bool false) := by rw [hWn]; exact u0
                          replace d0 : W6.cell? ⟨gd, 0, none⟩ = some (.bool true) := by rw [hWn]; exact d0
                          replace b0 : W6.cell? ⟨gb, k, none⟩ = some (.int .i64 bk) := by rw [hWn]; exact b0
                          replace d1 : W6.cell? ⟨gd, 1, none⟩ = some (.int .i64 md) := by rw [hWn]; exact d1
                          have HB6 := Lib.hid (show Below wo.heap.size wo W6 by rw [hWn]; exact below_drewN' HB5.out nq)
                          clear hWn HB5
                          go_wp2_with fail
                          go_quiet (fail)
                          obtain ⟨W7, hWn⟩ : ∃ WW, WW = W6.drewN nq := ⟨_, rfl⟩
                          rw [← hWn]
                          replace u0 : W7.cell? ⟨gu, 0, none⟩ = some (.bool false) := by rw [hWn]; exact u0
                          replace d0 : W7.cell? ⟨gd, 0, none⟩ = some (.bool true) := by rw [hWn]; exact d0
                          replace b0 : W7.cell? ⟨gb, k, none⟩ = some (.int .i64 bk) := by rw [hWn]; exact b0
                          replace d1 : W7.cell? ⟨gd, 1, none⟩ = some (.int .i64 md) := by rw [hWn]; exact d1
                          have HB7 := Lib.hid (show Below wo.heap.size wo W7 by rw [hWn]; exact below_drewN' HB6.out nq)
                          clear hWn HB6
                          go_wp2_with fail
                          go_roundw
                          case rel => exact ⟨k + 1, by have := HKT.out; omega, by go_num, by rw [HLN.out], by rw [HHN.out], HB7.out⟩
                          case measure => simp [intOf]; omega
                        ·
                          go_upto_region 18 with (fail)
                          clear z0
                          go_wp2_with fail
                          go_at_call 18
                          refine (HBU.out _ HBi.out).mono ?_
                          rintro e W1 ⟨rfl, hW1⟩
                          rw [show bv (bnd mu) = .agg #[.bool false, .int .i64 0] by unfold bnd; rw [if_pos hu]; rfl]
                          have HB1 := Lib.hid (HBi.out.trans (hW1.mono HBi.out.size))
                          clear hW1
                          go_upto_region 19 with (fail)
                          have hub := Blk.new W1 38 #[.bool false, .int .i64 0]
                          have HB2 := Lib.hid (HB1.out.trans ((below_box W1 (.cells #[.bool false, .int .i64 0] 38)).mono HB1.out.size))
                          generalize W1.alloc (.cells #[.bool false, .int .i64 0] 38) = W2 at *
                          generalize W1.heap.size = gu at *
                          have HUB := Lib.hid hub
                          clear hub HB1
                          go_wp2_with fail
                          go_at_call 18
                          refine (HBD.out _ HB2.out).mono ?_
                          rintro e W3 ⟨rfl, hW3⟩
                          rw [show bv (bnd md) = .agg #[.bool true, .int .i64 md] by unfold bnd; rw [if_neg hd]; rfl]
                          have HUB3 := Lib.hid (HUB.out.below hW3 HUB.out.lt)
                          have HB3 := Lib.hid (HB2.out.trans (hW3.mono HB2.out.size))
                          clear hW3 HUB HB2
                          go_upto_region 20 with (fail)
                          have hdb := Blk.new W3 38 #[.bool true, .int .i64 md]
                          have hbox := below_box W3 (.cells #[.bool true, .int .i64 md] 38)
                          have HB4 := Lib.hid (HB3.out.trans (hbox.mono HB3.out.size))
                          have hub4 := HUB3.out.below hbox HUB3.out.lt
                          generalize W3.alloc (.cells #[.bool true, .int .i64 md] 38) = W4 at *
                          generalize W3.heap.size = gd at *
                          have u0 : W4.cell? ⟨gu, 0, none⟩ = some (.bool false) := hub4.cell 0
                          have d0 : W4.cell? ⟨gd, 0, none⟩ = some (.bool true) := hdb.cell 0
                          have d1 : W4.cell? ⟨gd, 1, none⟩ = some (.int .i64 md) := hdb.cell 1
                          have b0 := (HV2.out.up HB4.out).at_ k HKT.out
                          rw [← HBK.out] at b0
                          clear hub4 hdb hbox HUB3 HB3 HBU HBD
                          have HLN := Lib.hid (show lowK M b op x (k + 1) = lv from by rw [HL2.out]; rw [if_neg hd]; exact if_neg (by omega))
                          have HHN := Lib.hid (show highK M b op x (k + 1) = hv from by rw [HH2.out]; exact if_pos hu)
                          replace td : decide (lv < bk - md) = false := decide_eq_false (by omega)
                          clear HL2 HH2 hu hd
                          go_wp2_with fail
                          go_quiet (fail)
                          obtain ⟨W5, hWn⟩ : ∃ WW, WW = W4.drewN nq := ⟨_, rfl⟩
                          rw [← hWn]
                          replace u0 : W5.cell? ⟨gu, 0, none⟩ = some (.bool false) := by rw [hWn]; exact u0
                          replace d0 : W5.cell? ⟨gd, 0, none⟩ = some (.bool true) := by rw [hWn]; exact d0
                          replace b0 : W5.cell? ⟨gb, k, none⟩ = some (.int .i64 bk) := by rw [hWn]; exact b0
                          replace d1 : W5.cell? ⟨gd, 1, none⟩ = some (.int .i64 md) := by rw [hWn]; exact d1
                          have HB5 := Lib.hid (show Below wo.heap.size wo W5 by rw [hWn]; exact below_drewN' HB4.out nq)
                          clear hWn HB4
                          go_wp2_with fail
                          go_quiet (fail)
                          obtain ⟨W6, hWn⟩ : ∃ WW, WW = W5.drewN nq := ⟨_, rfl⟩
                          rw [← hWn]
                          replace u0 : W6.cell? ⟨gu, 0, none⟩ = some (.bool false) := by rw [hWn]; exact u0
                          replace d0 : W6.cell? ⟨gd, 0, none⟩ = some (.bool true) := by rw [hWn]; exact d0
                          replace b0 : W6.cell? ⟨gb, k, none⟩ = some (.int .i64 bk) := by rw [hWn]; exact b0
                          replace d1 : W6.cell? ⟨gd, 1, none⟩ = some (.int .i64 md) := by rw [hWn]; exact d1
                          have HB6 := Lib.hid (show Below wo.heap.size wo W6 by rw [hWn]; exact below_drewN' HB5.out nq)
                          clear hWn HB5
                          go_wp2_with fail
                          go_roundw
                          case rel => exact ⟨k + 1, by have := HKT.out; omega, by go_num, by rw [HLN.out], by rw [HHN.out], HB6.out⟩
                          case measure => simp [intOf]; omega
                    ·
                      obtain ⟨bu1, bu2⟩ := bu hu
                      clear bu
                      by_cases hd : md = 3458764513820540928
                      ·
                        by_cases tu : bk + mu < hv
                        ·
                          go_upto_region 18 with (fail)
                          clear z0
                          go_wp2_with fail
                          go_at_call 18
                          refine (HBU.out _ HBi.out).mono ?_
                          rintro e W1 ⟨rfl, hW1⟩
                          rw [show bv (bnd mu) = .agg #[.bool true, .int .i64 mu] by unfold bnd; rw [if_neg hu]; rfl]
                          have HB1 := Lib.hid (HBi.out.trans (hW1.mono HBi.out.size))
                          clear hW1
                          go_upto_region 19 with (fail)
                          have hub := Blk.new W1 38 #[.bool true, .int .i64 mu]
                          have HB2 := Lib.hid (HB1.out.trans ((below_box W1 (.cells #[.bool true, .int .i64 mu] 38)).mono HB1.out.size))
                          generalize W1.alloc (.cells #[.bool true, .int .i64 mu] 38) = W2 at *
                          generalize W1.heap.size = gu at *
                          have HUB := Lib.hid hub
                          clear hub HB1
                          go_wp2_with fail
                          go_at_call 18
                          refine (HBD.out _ HB2.out).mono ?_
                          rintro e W3 ⟨rfl, hW3⟩
                          rw [show bv (bnd md) = .agg #[.bool false, .int .i64 0] by unfold bnd; rw [if_pos hd]; rfl]
                          have HUB3 := Lib.hid (HUB.out.below hW3 HUB.out.lt)
                          have HB3 := Lib.hid (HB2.out.trans (hW3.mono HB2.out.size))
                          clear hW3 HUB HB2
                          go_upto_region 20 with (fail)
                          have hdb := Blk.new W3 38 #[.bool false, .int .i64 0]
                          have hbox := below_box W3 (.cells #[.bool false, .int .i64 0] 38)
                          have HB4 := Lib.hid (HB3.out.trans (hbox.mono HB3.out.size))
                          have hub4 := HUB3.out.below hbox HUB3.out.lt
                          generalize W3.alloc (.cells #[.bool false, .int .i64 0] 38) = W4 at *
                          generalize W3.heap.size = gd at *
                          have u0 : W4.cell? ⟨gu, 0, none⟩ = some (.bool true) := hub4.cell 0
                          have u1 : W4.cell? ⟨gu, 1, none⟩ = some (.int .i64 mu) := hub4.cell 1
                          have d0 : W4.cell? ⟨gd, 0, none⟩ = some (.bool false) := hdb.cell 0
                          have b0 := (HV2.out.up HB4.out).at_ k HKT.out
                          rw [← HBK.out] at b0
                          clear hub4 hdb hbox HUB3 HB3 HBU HBD
                          have HLN := Lib.hid (show lowK M b op x (k + 1) = lv from by rw [HL2.out]; exact if_pos hd)
                          have HHN := Lib.hid (show highK M b op x (k + 1) = bk + mu from by rw [HH2.out]; rw [if_neg hu]; exact if_pos tu)
                          replace tu := decide_eq_true tu
                          clear HL2 HH2 hu hd
                          go_wp2_with fail
                          go_quiet (fail)
                          obtain ⟨W5, hWn⟩ : ∃ WW, WW = W4.drewN nq := ⟨_, rfl⟩
                          rw [← hWn]
                          replace u0 : W5.cell? ⟨gu, 0, none⟩ = some (.bool true) := by rw [hWn]; exact u0
                          replace d0 : W5.cell? ⟨gd, 0, none⟩ = some (.bool false) := by rw [hWn]; exact d0
                          replace b0 : W5.cell? ⟨gb, k, none⟩ = some (.int .i64 bk) := by rw [hWn]; exact b0
                          replace u1 : W5.cell? ⟨gu, 1, none⟩ = some (.int .i64 mu) := by rw [hWn]; exact u1
                          have HB5 := Lib.hid (show Below wo.heap.size wo W5 by rw [hWn]; exact below_drewN' HB4.out nq)
                          clear hWn HB4
                          go_wp2_with fail
                          go_quiet (fail)
                          obtain ⟨W6, hWn⟩ : ∃ WW, WW = W5.drewN nq := ⟨_, rfl⟩
                          rw [← hWn]
                          replace u0 : W6.cell? ⟨gu, 0, none⟩ = some (.bool true) := by rw [hWn]; exact u0
                          replace d0 : W6.cell? ⟨gd, 0, none⟩ = some (.bool false) := by rw [hWn]; exact d0
                          replace b0 : W6.cell? ⟨gb, k, none⟩ = some (.int .i64 bk) := by rw [hWn]; exact b0
                          replace u1 : W6.cell? ⟨gu, 1, none⟩ = some (.int .i64 mu) := by rw [hWn]; exact u1
                          have HB6 := Lib.hid (show Below wo.heap.size wo W6 by rw [hWn]; exact below_drewN' HB5.out nq)
                          clear hWn HB5
                          go_wp2_with fail
                          go_quiet (fail)
                          obtain ⟨W7, hWn⟩ : ∃ WW, WW = W6.drewN nq := ⟨_, rfl⟩
                          rw [← hWn]
                          replace u0 : W7.cell? ⟨gu, 0, none⟩ = some (.bool true) := by rw [hWn]; exact u0
                          replace d0 : W7.cell? ⟨gd, 0, none⟩ = some (.bool false) := by rw [hWn]; exact d0
                          replace b0 : W7.cell? ⟨gb, k, none⟩ = some (.int .i64 bk) := by rw [hWn]; exact b0
                          replace u1 : W7.cell? ⟨gu, 1, none⟩ = some (.int .i64 mu) := by rw [hWn]; exact u1
                          have HB7 := Lib.hid (show Below wo.heap.size wo W7 by rw [hWn]; exact below_drewN' HB6.out nq)
                          clear hWn HB6
                          go_wp2_with fail
                          go_roundw
                          case rel => exact ⟨k + 1, by have := HKT.out; omega, by go_num, by rw [HLN.out], by rw [HHN.out], HB7.out⟩
                          case measure => simp [intOf]; omega
                        ·
                          go_upto_region 18 with (fail)
                          clear z0
                          go_wp2_with fail
                          go_at_call 18
                          refine (HBU.out _ HBi.out).mono ?_
                          rintro e W1 ⟨rfl, hW1⟩
                          rw [show bv (bnd mu) = .agg #[.bool true, .int .i64 mu] by unfold bnd; rw [if_neg hu]; rfl]
                          have HB1 := Lib.hid (HBi.out.trans (hW1.mono HBi.out.size))
                          clear hW1
                          go_upto_region 19 with (fail)
                          have hub := Blk.new W1 38 #[.bool true, .int .i64 mu]
                          have HB2 := Lib.hid (HB1.out.trans ((below_box W1 (.cells #[.bool true, .int .i64 mu] 38)).mono HB1.out.size))
                          generalize W1.alloc (.cells #[.bool true, .int .i64 mu] 38) = W2 at *
                          generalize W1.heap.size = gu at *
                          have HUB := Lib.hid hub
                          clear hub HB1
                          go_wp2_with fail
                          go_at_call 18
                          refine (HBD.out _ HB2.out).mono ?_
                          rintro e W3 ⟨rfl, hW3⟩
                          rw [show bv (bnd md) = .agg #[.bool false, .int .i64 0] by unfold bnd; rw [if_pos hd]; rfl]
                          have HUB3 := Lib.hid (HUB.out.below hW3 HUB.out.lt)
                          have HB3 := Lib.hid (HB2.out.trans (hW3.mono HB2.out.size))
                          clear hW3 HUB HB2
                          go_upto_region 20 with (fail)
                          have hdb := Blk.new W3 38 #[.bool false, .int .i64 0]
                          have hbox := below_box W3 (.cells #[.bool false, .int .i64 0] 38)
                          have HB4 := Lib.hid (HB3.out.trans (hbox.mono HB3.out.size))
                          have hub4 := HUB3.out.below hbox HUB3.out.lt
                          generalize W3.alloc (.cells #[.bool false, .int .i64 0] 38) = W4 at *
                          generalize W3.heap.size = gd at *
                          have u0 : W4.cell? ⟨gu, 0, none⟩ = some (.bool true) := hub4.cell 0
                          have u1 : W4.cell? ⟨gu, 1, none⟩ = some (.int .i64 mu) := hub4.cell 1
                          have d0 : W4.cell? ⟨gd, 0, none⟩ = some (.bool false) := hdb.cell 0
                          have b0 := (HV2.out.up HB4.out).at_ k HKT.out
                          rw [← HBK.out] at b0
                          clear hub4 hdb hbox HUB3 HB3 HBU HBD
                          have HLN := Lib.hid (show lowK M b op x (k + 1) = lv from by rw [HL2.out]; exact if_pos hd)
                          have HHN := Lib.hid (show highK M b op x (k + 1) = hv from by rw [HH2.out]; rw [if_neg hu]; exact if_neg (by omega))
                          replace tu : decide (bk + mu < hv) = false := decide_eq_false (by omega)
                          clear HL2 HH2 hu hd
                          go_wp2_with fail
                          go_quiet (fail)
                          obtain ⟨W5, hWn⟩ : ∃ WW, WW = W4.drewN nq := ⟨_, rfl⟩
                          rw [← hWn]
                          replace u0 : W5.cell? ⟨gu, 0, none⟩ = some (.bool true) := by rw [hWn]; exact u0
                          replace d0 : W5.cell? ⟨gd, 0, none⟩ = some (.bool false) := by rw [hWn]; exact d0
                          replace b0 : W5.cell? ⟨gb, k, none⟩ = some (.int .i64 bk) := by rw [hWn]; exact b0
                          replace u1 : W5.cell? ⟨gu, 1, none⟩ = some (.int .i64 mu) := by rw [hWn]; exact u1
                          have HB5 := Lib.hid (show Below wo.heap.size wo W5 by rw [hWn]; exact below_drewN' HB4.out nq)
                          clear hWn HB4
                          go_wp2_with fail
                          go_quiet (fail)
                          obtain ⟨W6, hWn⟩ : ∃ WW, WW = W5.drewN nq := ⟨_, rfl⟩
                          rw [← hWn]
                          replace u0 : W6.cell? ⟨gu, 0, none⟩ = some (.bool true) := by rw [hWn]; exact u0
                          replace d0 : W6.cell? ⟨gd, 0, none⟩ = some (.bool false) := by rw [hWn]; exact d0
                          replace b0 : W6.cell? ⟨gb, k, none⟩ = some (.int .i64 bk) := by rw [hWn]; exact b0
                          replace u1 : W6.cell? ⟨gu, 1, none⟩ = some (.int .i64 mu) := by rw [hWn]; exact u1
                          have HB6 := Lib.hid (show Below wo.heap.size wo W6 by rw [hWn]; exact below_drewN' HB5.out nq)
                          clear hWn HB5
                          go_wp2_with fail
                          go_roundw
                          case rel => exact ⟨k + 1, by have := HKT.out; omega, by go_num, by rw [HLN.out], by rw [HHN.out], HB6.out⟩
                          case measure => simp [intOf]; omega
                      ·
                        obtain ⟨bd1, bd2⟩ := bd hd
                        clear bd
                        by_cases tu : bk + mu < hv
                        ·
                          by_cases td : lv < bk - md
                          ·
                            go_upto_region 18 with (fail)
                            clear z0
                            go_wp2_with fail
                            go_at_call 18
                            refine (HBU.out _ HBi.out).mono ?_
                            rintro e W1 ⟨rfl, hW1⟩
                            rw [show bv (bnd mu) = .agg #[.bool true, .int .i64 mu] by unfold bnd; rw [if_neg hu]; rfl]
                            have HB1 := Lib.hid (HBi.out.trans (hW1.mono HBi.out.size))
                            clear hW1
                            go_upto_region 19 with (fail)
                            have hub := Blk.new W1 38 #[.bool true, .int .i64 mu]
                            have HB2 := Lib.hid (HB1.out.trans ((below_box W1 (.cells #[.bool true, .int .i64 mu] 38)).mono HB1.out.size))
                            generalize W1.alloc (.cells #[.bool true, .int .i64 mu] 38) = W2 at *
                            generalize W1.heap.size = gu at *
                            have HUB := Lib.hid hub
                            clear hub HB1
                            go_wp2_with fail
                            go_at_call 18
                            refine (HBD.out _ HB2.out).mono ?_
                            rintro e W3 ⟨rfl, hW3⟩
                            rw [show bv (bnd md) = .agg #[.bool true, .int .i64 md] by unfold bnd; rw [if_neg hd]; rfl]
                            have HUB3 := Lib.hid (HUB.out.below hW3 HUB.out.lt)
                            have HB3 := Lib.hid (HB2.out.trans (hW3.mono HB2.out.size))
                            clear hW3 HUB HB2
                            go_upto_region 20 with (fail)
                            have hdb := Blk.new W3 38 #[.bool true, .int .i64 md]
                            have hbox := below_box W3 (.cells #[.bool true, .int .i64 md] 38)
                            have HB4 := Lib.hid (HB3.out.trans (hbox.mono HB3.out.size))
                            have hub4 := HUB3.out.below hbox HUB3.out.lt
                            generalize W3.alloc (.cells #[.bool true, .int .i64 md] 38) = W4 at *
                            generalize W3.heap.size = gd at *
                            have u0 : W4.cell? ⟨gu, 0, none⟩ = some (.bool true) := hub4.cell 0
                            have u1 : W4.cell? ⟨gu, 1, none⟩ = some (.int .i64 mu) := hub4.cell 1
                            have d0 : W4.cell? ⟨gd, 0, none⟩ = some (.bool true) := hdb.cell 0
                            have d1 : W4.cell? ⟨gd, 1, none⟩ = some (.int .i64 md) := hdb.cell 1
                            have b0 := (HV2.out.up HB4.out).at_ k HKT.out
                            rw [← HBK.out] at b0
                            clear hub4 hdb hbox HUB3 HB3 HBU HBD
                            have HLN := Lib.hid (show lowK M b op x (k + 1) = bk - md from by rw [HL2.out]; rw [if_neg hd]; exact if_pos td)
                            have HHN := Lib.hid (show highK M b op x (k + 1) = bk + mu from by rw [HH2.out]; rw [if_neg hu]; exact if_pos tu)
                            replace tu := decide_eq_true tu
                            replace td := decide_eq_true td
                            clear HL2 HH2 hu hd
                            go_wp2_with fail
                            go_quiet (fail)
                            obtain ⟨W5, hWn⟩ : ∃ WW, WW = W4.drewN nq := ⟨_, rfl⟩
                            rw [← hWn]
                            replace u0 : W5.cell? ⟨gu, 0, none⟩ = some (.bool true) := by rw [hWn]; exact u0
                            replace d0 : W5.cell? ⟨gd, 0, none⟩ = some (.bool true) := by rw [hWn]; exact d0
                            replace b0 : W5.cell? ⟨gb, k, none⟩ = some (.int .i64 bk) := by rw [hWn]; exact b0
                            replace u1 : W5.cell? ⟨gu, 1, none⟩ = some (.int .i64 mu) := by rw [hWn]; exact u1
                            replace d1 : W5.cell? ⟨gd, 1, none⟩ = some (.int .i64 md) := by rw [hWn]; exact d1
                            have HB5 := Lib.hid (show Below wo.heap.size wo W5 by rw [hWn]; exact below_drewN' HB4.out nq)
                            clear hWn HB4
                            go_wp2_with fail
                            go_quiet (fail)
                            obtain ⟨W6, hWn⟩ : ∃ WW, WW = W5.drewN nq := ⟨_, rfl⟩
                            rw [← hWn]
                            replace u0 : W6.cell? ⟨gu, 0, none⟩ = some (.bool true) := by rw [hWn]; exact u0
                            replace d0 : W6.cell? ⟨gd, 0, none⟩ = some (.bool true) := by rw [hWn]; exact d0
                            replace b0 : W6.cell? ⟨gb, k, none⟩ = some (.int .i64 bk) := by rw [hWn]; exact b0
                            replace u1 : W6.cell? ⟨gu, 1, none⟩ = some (.int .i64 mu) := by rw [hWn]; exact u1
                            replace d1 : W6.cell? ⟨gd, 1, none⟩ = some (.int .i64 md) := by rw [hWn]; exact d1
                            have HB6 := Lib.hid (show Below wo.heap.size wo W6 by rw [hWn]; exact below_drewN' HB5.out nq)
                            clear hWn HB5
                            go_wp2_with fail
                            go_quiet (fail)
                            obtain ⟨W7, hWn⟩ : ∃ WW, WW = W6.drewN nq := ⟨_, rfl⟩
                            rw [← hWn]
                            replace u0 : W7.cell? ⟨gu, 0, none⟩ = some (.bool true) := by rw [hWn]; exact u0
                            replace d0 : W7.cell? ⟨gd, 0, none⟩ = some (.bool true) := by rw [hWn]; exact d0
                            replace b0 : W7.cell? ⟨gb, k, none⟩ = some (.int .i64 bk) := by rw [hWn]; exact b0
                            replace u1 : W7.cell? ⟨gu, 1, none⟩ = some (.int .i64 mu) := by rw [hWn]; exact u1
                            replace d1 : W7.cell? ⟨gd, 1, none⟩ = some (.int .i64 md) := by rw [hWn]; exact d1
                            have HB7 := Lib.hid (show Below wo.heap.size wo W7 by rw [hWn]; exact below_drewN' HB6.out nq)
                            clear hWn HB6
                            go_wp2_with fail
                            go_quiet (fail)
                            obtain ⟨W8, hWn⟩ : ∃ WW, WW = W7.drewN nq := ⟨_, rfl⟩
                            rw [← hWn]
                            replace u0 : W8.cell? ⟨gu, 0, none⟩ = some (.bool true) := by rw [hWn]; exact u0
                            replace d0 : W8.cell? ⟨gd, 0, none⟩ = some (.bool true) := by rw [hWn]; exact d0
                            replace b0 : W8.cell? ⟨gb, k, none⟩ = some (.int .i64 bk) := by rw [hWn]; exact b0
                            replace u1 : W8.cell? ⟨gu, 1, none⟩ = some (.int .i64 mu) := by rw [hWn]; exact u1
                            replace d1 : W8.cell? ⟨gd, 1, none⟩ = some (.int .i64 md) := by rw [hWn]; exact d1
                            have HB8 := Lib.hid (show Below wo.heap.size wo W8 by rw [hWn]; exact below_drewN' HB7.out nq)
                            clear hWn HB7
                            go_wp2_with fail
                            go_roundw
                            case rel => exact ⟨k + 1, by have := HKT.out; omega, by go_num, by rw [HLN.out], by rw [HHN.out], HB8.out⟩
                            case measure => simp [intOf]; omega
                          ·
                            go_upto_region 18 with (fail)
                            clear z0
                            go_wp2_with fail
                            go_at_call 18
                            refine (HBU.out _ HBi.out).mono ?_
                            rintro e W1 ⟨rfl, hW1⟩
                            rw [show bv (bnd mu) = .agg #[.bool true, .int .i64 mu] by unfold bnd; rw [if_neg hu]; rfl]
                            have HB1 := Lib.hid (HBi.out.trans (hW1.mono HBi.out.size))
                            clear hW1
                            go_upto_region 19 with (fail)
                            have hub := Blk.new W1 38 #[.bool true, .int .i64 mu]
                            have HB2 := Lib.hid (HB1.out.trans ((below_box W1 (.cells #[.bool true, .int .i64 mu] 38)).mono HB1.out.size))
                            generalize W1.alloc (.cells #[.bool true, .int .i64 mu] 38) = W2 at *
                            generalize W1.heap.size = gu at *
                            have HUB := Lib.hid hub
                            clear hub HB1
                            go_wp2_with fail
                            go_at_call 18
                            refine (HBD.out _ HB2.out).mono ?_
                            rintro e W3 ⟨rfl, hW3⟩
                            rw [show bv (bnd md) = .agg #[.bool true, .int .i64 md] by unfold bnd; rw [if_neg hd]; rfl]
                            have HUB3 := Lib.hid (HUB.out.below hW3 HUB.out.lt)
                            have HB3 := Lib.hid (HB2.out.trans (hW3.mono HB2.out.size))
                            clear hW3 HUB HB2
                            go_upto_region 20 with (fail)
                            have hdb := Blk.new W3 38 #[.bool true, .int .i64 md]
                            have hbox := below_box W3 (.cells #[.bool true, .int .i64 md] 38)
                            have HB4 := Lib.hid (HB3.out.trans (hbox.mono HB3.out.size))
                            have hub4 := HUB3.out.below hbox HUB3.out.lt
                            generalize W3.alloc (.cells #[.bool true, .int .i64 md] 38) = W4 at *
                            generalize W3.heap.size = gd at *
                            have u0 : W4.cell? ⟨gu, 0, none⟩ = some (.bool true) := hub4.cell 0
                            have u1 : W4.cell? ⟨gu, 1, none⟩ = some (.int .i64 mu) := hub4.cell 1
                            have d0 : W4.cell? ⟨gd, 0, none⟩ = some (.bool true) := hdb.cell 0
                            have d1 : W4.cell? ⟨gd, 1, none⟩ = some (.int .i64 md) := hdb.cell 1
                            have b0 := (HV2.out.up HB4.out).at_ k HKT.out
                            rw [← HBK.out] at b0
                            clear hub4 hdb hbox HUB3 HB3 HBU HBD
                            have HLN := Lib.hid (show lowK M b op x (k + 1) = lv from by rw [HL2.out]; rw [if_neg hd]; exact if_neg (by omega))
                            have HHN := Lib.hid (show highK M b op x (k + 1) = bk + mu from by rw [HH2.out]; rw [if_neg hu]; exact if_pos tu)
                            replace tu := decide_eq_true tu
                            replace td : decide (lv < bk - md) = false := decide_eq_false (by omega)
                            clear HL2 HH2 hu hd
                            go_wp2_with fail
                            go_quiet (fail)
                            obtain ⟨W5, hWn⟩ : ∃ WW, WW = W4.drewN nq := ⟨_, rfl⟩
                            rw [← hWn]
                            replace u0 : W5.cell? ⟨gu, 0, none⟩ = some (.bool true) := by rw [hWn]; exact u0
                            replace d0 : W5.cell? ⟨gd, 0, none⟩ = some (.bool true) := by rw [hWn]; exact d0
                            replace b0 : W5.cell? ⟨gb, k, none⟩ = some (.int .i64 bk) := by rw [hWn]; exact b0
                            replace u1 : W5.cell? ⟨gu, 1, none⟩ = some (.int .i64 mu) := by rw [hWn]; exact u1
                            replace d1 : W5.cell? ⟨gd, 1, none⟩ = some (.int .i64 md) := by rw [hWn]; exact d1
                            have HB5 := Lib.hid (show Below wo.heap.size wo W5 by rw [hWn]; exact below_drewN' HB4.out nq)
                            clear hWn HB4
                            go_wp2_with fail
                            go_quiet (fail)
                            obtain ⟨W6, hWn⟩ : ∃ WW, WW = W5.drewN nq := ⟨_, rfl⟩
                            rw [← hWn]
                            replace u0 : W6.cell? ⟨gu, 0, none⟩ = some (.bool true) := by rw [hWn]; exact u0
                            replace d0 : W6.cell? ⟨gd, 0, none⟩ = some (.bool true) := by rw [hWn]; exact d0
                            replace b0 : W6.cell? ⟨gb, k, none⟩ = some (.int .i64 bk) := by rw [hWn]; exact b0
                            replace u1 : W6.cell? ⟨gu, 1, none⟩ = some (.int .i64 mu) := by rw [hWn]; exact u1
                            replace d1 : W6.cell? ⟨gd, 1, none⟩ = some (.int .i64 md) := by rw [hWn]; exact d1
                            have HB6 := Lib.hid (show Below wo.heap.size wo W6 by rw [hWn]; exact below_drewN' HB5.out nq)
                            clear hWn HB5
                            go_wp2_with fail
                            go_quiet (fail)
                            obtain ⟨W7, hWn⟩ : ∃ WW, WW = W6.drewN nq := ⟨_, rfl⟩
                            rw [← hWn]
                            replace u0 : W7.cell? ⟨gu, 0, none⟩ = some (.bool true) := by rw [hWn]; exact u0
                            replace d0 : W7.cell? ⟨gd, 0, none⟩ = some (.bool true) := by rw [hWn]; exact d0
                            replace b0 : W7.cell? ⟨gb, k, none⟩ = some (.int .i64 bk) := by rw [hWn]; exact b0
                            replace u1 : W7.cell? ⟨gu, 1, none⟩ = some (.int .i64 mu) := by rw [hWn]; exact u1
                            replace d1 : W7.cell? ⟨gd, 1, none⟩ = some (.int .i64 md) := by rw [hWn]; exact d1
                            have HB7 := Lib.hid (show Below wo.heap.size wo W7 by rw [hWn]; exact below_drewN' HB6.out nq)
                            clear hWn HB6
                            go_wp2_with fail
                            go_roundw
                            case rel => exact ⟨k + 1, by have := HKT.out; omega, by go_num, by rw [HLN.out], by rw [HHN.out], HB7.out⟩
                            case measure => simp [intOf]; omega
                        ·
                          by_cases td : lv < bk - md
                          ·
                            go_upto_region 18 with (fail)
                            clear z0
                            go_wp2_with fail
                            go_at_call 18
                            refine (HBU.out _ HBi.out).mono ?_
                            rintro e W1 ⟨rfl, hW1⟩
                            rw [show bv (bnd mu) = .agg #[.bool true, .int .i64 mu] by unfold bnd; rw [if_neg hu]; rfl]
                            have HB1 := Lib.hid (HBi.out.trans (hW1.mono HBi.out.size))
                            clear hW1
                            go_upto_region 19 with (fail)
                            have hub := Blk.new W1 38 #[.bool true, .int .i64 mu]
                            have HB2 := Lib.hid (HB1.out.trans ((below_box W1 (.cells #[.bool true, .int .i64 mu] 38)).mono HB1.out.size))
                            generalize W1.alloc (.cells #[.bool true, .int .i64 mu] 38) = W2 at *
                            generalize W1.heap.size = gu at *
                            have HUB := Lib.hid hub
                            clear hub HB1
                            go_wp2_with fail
                            go_at_call 18
                            refine (HBD.out _ HB2.out).mono ?_
                            rintro e W3 ⟨rfl, hW3⟩
                            rw [show bv (bnd md) = .agg #[.bool true, .int .i64 md] by unfold bnd; rw [if_neg hd]; rfl]
                            have HUB3 := Lib.hid (HUB.out.below hW3 HUB.out.lt)
                            have HB3 := Lib.hid (HB2.out.trans (hW3.mono HB2.out.size))
                            clear hW3 HUB HB2
                            go_upto_region 20 with (fail)
                            have hdb := Blk.new W3 38 #[.bool true, .int .i64 md]
                            have hbox := below_box W3 (.cells #[.bool true, .int .i64 md] 38)
                            have HB4 := Lib.hid (HB3.out.trans (hbox.mono HB3.out.size))
                            have hub4 := HUB3.out.below hbox HUB3.out.lt
                            generalize W3.alloc (.cells #[.bool true, .int .i64 md] 38) = W4 at *
                            generalize W3.heap.size = gd at *
                            have u0 : W4.cell? ⟨gu, 0, none⟩ = some (.bool true) := hub4.cell 0
                            have u1 : W4.cell? ⟨gu, 1, none⟩ = some (.int .i64 mu) := hub4.cell 1
                            have d0 : W4.cell? ⟨gd, 0, none⟩ = some (.bool true) := hdb.cell 0
                            have d1 : W4.cell? ⟨gd, 1, none⟩ = some (.int .i64 md) := hdb.cell 1
                            have b0 := (HV2.out.up HB4.out).at_ k HKT.out
                            rw [← HBK.out] at b0
                            clear hub4 hdb hbox HUB3 HB3 HBU HBD
                            have HLN := Lib.hid (show lowK M b op x (k + 1) = bk - md from by rw [HL2.out]; rw [if_neg hd]; exact if_pos td)
                            have HHN := Lib.hid (show highK M b op x (k + 1) = hv from by rw [HH2.out]; rw [if_neg hu]; exact if_neg (by omega))
                            replace tu : decide (bk + mu < hv) = false := decide_eq_false (by omega)
                            replace td := decide_eq_true td
                            clear HL2 HH2 hu hd
                            go_wp2_with fail
                            go_quiet (fail)
                            obtain ⟨W5, hWn⟩ : ∃ WW, WW = W4.drewN nq := ⟨_, rfl⟩
                            rw [← hWn]
                            replace u0 : W5.cell? ⟨gu, 0, none⟩ = some (.bool true) := by rw [hWn]; exact u0
                            replace d0 : W5.cell? ⟨gd, 0, none⟩ = some (.bool true) := by rw [hWn]; exact d0
                            replace b0 : W5.cell? ⟨gb, k, none⟩ = some (.int .i64 bk) := by rw [hWn]; exact b0
                            replace u1 : W5.cell? ⟨gu, 1, none⟩ = some (.int .i64 mu) := by rw [hWn]; exact u1
                            replace d1 : W5.cell? ⟨gd, 1, none⟩ = some (.int .i64 md) := by rw [hWn]; exact d1
                            have HB5 := Lib.hid (show Below wo.heap.size wo W5 by rw [hWn]; exact below_drewN' HB4.out nq)
                            clear hWn HB4
                            go_wp2_with fail
                            go_quiet (fail)
                            obtain ⟨W6, hWn⟩ : ∃ WW, WW = W5.drewN nq := ⟨_, rfl⟩
                            rw [← hWn]
                            replace u0 : W6.cell? ⟨gu, 0, none⟩ = some (.bool true) := by rw [hWn]; exact u0
                            replace d0 : W6.cell? ⟨gd, 0, none⟩ = some (.bool true) := by rw [hWn]; exact d0
                            replace b0 : W6.cell? ⟨gb, k, none⟩ = some (.int .i64 bk) := by rw [hWn]; exact b0
                            replace u1 : W6.cell? ⟨gu, 1, none⟩ = some (.int .i64 mu) := by rw [hWn]; exact u1
                            replace d1 : W6.cell? ⟨gd, 1, none⟩ = some (.int .i64 md) := by rw [hWn]; exact d1
                            have HB6 := Lib.hid (show Below wo.heap.size wo W6 by rw [hWn]; exact below_drewN' HB5.out nq)
                            clear hWn HB5
                            go_wp2_with fail
                            go_quiet (fail)
                            obtain ⟨W7, hWn⟩ : ∃ WW, WW = W6.drewN nq := ⟨_, rfl⟩
                            rw [← hWn]
                            replace u0 : W7.cell? ⟨gu, 0, none⟩ = some (.bool true) := by rw [hWn]; exact u0
                            replace d0 : W7.cell? ⟨gd, 0, none⟩ = some (.bool true) := by rw [hWn]; exact d0
                            replace b0 : W7.cell? ⟨gb, k, none⟩ = some (.int .i64 bk) := by rw [hWn]; exact b0
                            replace u1 : W7.cell? ⟨gu, 1, none⟩ = some (.int .i64 mu) := by rw [hWn]; exact u1
                            replace d1 : W7.cell? ⟨gd, 1, none⟩ = some (.int .i64 md) := by rw [hWn]; exact d1
                            have HB7 := Lib.hid (show Below wo.heap.size wo W7 by rw [hWn]; exact below_drewN' HB6.out nq)
                            clear hWn HB6
                            go_wp2_with fail
                            go_roundw
                            case rel => exact ⟨k + 1, by have := HKT.out; omega, by go_num, by rw [HLN.out], by rw [HHN.out], HB7.out⟩
                            case measure => simp [intOf]; omega
                          ·
                            go_upto_region 18 with (fail)
                            clear z0
                            go_wp2_with fail
                            go_at_call 18
                            refine (HBU.out _ HBi.out).mono ?_
                            rintro e W1 ⟨rfl, hW1⟩
                            rw [show bv (bnd mu) = .agg #[.bool true, .int .i64 mu] by unfold bnd; rw [if_neg hu]; rfl]
                            have HB1 := Lib.hid (HBi.out.trans (hW1.mono HBi.out.size))
                            clear hW1
                            go_upto_region 19 with (fail)
                            have hub := Blk.new W1 38 #[.bool true, .int .i64 mu]
                            have HB2 := Lib.hid (HB1.out.trans ((below_box W1 (.cells #[.bool true, .int .i64 mu] 38)).mono HB1.out.size))
                            generalize W1.alloc (.cells #[.bool true, .int .i64 mu] 38) = W2 at *
                            generalize W1.heap.size = gu at *
                            have HUB := Lib.hid hub
                            clear hub HB1
                            go_wp2_with fail
                            go_at_call 18
                            refine (HBD.out _ HB2.out).mono ?_
                            rintro e W3 ⟨rfl, hW3⟩
                            rw [show bv (bnd md) = .agg #[.bool true, .int .i64 md] by unfold bnd; rw [if_neg hd]; rfl]
                            have HUB3 := Lib.hid (HUB.out.below hW3 HUB.out.lt)
                            have HB3 := Lib.hid (HB2.out.trans (hW3.mono HB2.out.size))
                            clear hW3 HUB HB2
                            go_upto_region 20 with (fail)
                            have hdb := Blk.new W3 38 #[.bool true, .int .i64 md]
                            have hbox := below_box W3 (.cells #[.bool true, .int .i64 md] 38)
                            have HB4 := Lib.hid (HB3.out.trans (hbox.mono HB3.out.size))
                            have hub4 := HUB3.out.below hbox HUB3.out.lt
                            generalize W3.alloc (.cells #[.bool true, .int .i64 md] 38) = W4 at *
                            generalize W3.heap.size = gd at *
                            have u0 : W4.cell? ⟨gu, 0, none⟩ = some (.bool true) := hub4.cell 0
                            have u1 : W4.cell? ⟨gu, 1, none⟩ = some (.int .i64 mu) := hub4.cell 1
                            have d0 : W4.cell? ⟨gd, 0, none⟩ = some (.bool true) := hdb.cell 0
                            have d1 : W4.cell? ⟨gd, 1, none⟩ = some (.int .i64 md) := hdb.cell 1
                            have b0 := (HV2.out.up HB4.out).at_ k HKT.out
                            rw [← HBK.out] at b0
                            clear hub4 hdb hbox HUB3 HB3 HBU HBD
                            have HLN := Lib.hid (show lowK M b op x (k + 1) = lv from by rw [HL2.out]; rw [if_neg hd]; exact if_neg (by omega))
                            have HHN := Lib.hid (show highK M b op x (k + 1) = hv from by rw [HH2.out]; rw [if_neg hu]; exact if_neg (by omega))
                            replace tu : decide (bk + mu < hv) = false := decide_eq_false (by omega)
                            replace td : decide (lv < bk - md) = false := decide_eq_false (by omega)
                            clear HL2 HH2 hu hd
                            go_wp2_with fail
                            go_quiet (fail)
                            obtain ⟨W5, hWn⟩ : ∃ WW, WW = W4.drewN nq := ⟨_, rfl⟩
                            rw [← hWn]
                            replace u0 : W5.cell? ⟨gu, 0, none⟩ = some (.bool true) := by rw [hWn]; exact u0
                            replace d0 : W5.cell? ⟨gd, 0, none⟩ = some (.bool true) := by rw [hWn]; exact d0
                            replace b0 : W5.cell? ⟨gb, k, none⟩ = some (.int .i64 bk) := by rw [hWn]; exact b0
                            replace u1 : W5.cell? ⟨gu, 1, none⟩ = some (.int .i64 mu) := by rw [hWn]; exact u1
                            replace d1 : W5.cell? ⟨gd, 1, none⟩ = some (.int .i64 md) := by rw [hWn]; exact d1
                            have HB5 := Lib.hid (show Below wo.heap.size wo W5 by rw [hWn]; exact below_drewN' HB4.out nq)
                            clear hWn HB4
                            go_wp2_with fail
                            go_quiet (fail)
                            obtain ⟨W6, hWn⟩ : ∃ WW, WW = W5.drewN nq := ⟨_, rfl⟩
                            rw [← hWn]
                            replace u0 : W6.cell? ⟨gu, 0, none⟩ = some (.bool true) := by rw [hWn]; exact u0
                            replace d0 : W6.cell? ⟨gd, 0, none⟩ = some (.bool true) := by rw [hWn]; exact d0
                            replace b0 : W6.cell? ⟨gb, k, none⟩ = some (.int .i64 bk) := by rw [hWn]; exact b0
                            replace u1 : W6.cell? ⟨gu, 1, none⟩ = some (.int .i64 mu) := by rw [hWn]; exact u1
                            replace d1 : W6.cell? ⟨gd, 1, none⟩ = some (.int .i64 md) := by rw [hWn]; exact d1
                            have HB6 := Lib.hid (show Below wo.heap.size wo W6 by rw [hWn]; exact below_drewN' HB5.out nq)
                            clear hWn HB5
                            go_wp2_with fail
                            go_roundw
                            case rel => exact ⟨k + 1, by have := HKT.out; omega, by go_num, by rw [HLN.out], by rw [HHN.out], HB6.out⟩
                            case measure => simp [intOf]; omega
              · obtain rfl : k = 60 := by omega
                have hlh := HE.out.low_high HM.out HLT.out 60 60 (by omega) (by omega)
                have HVi := Lib.hid (HV2.out.up hBi)
                have HOi := Lib.hid (HO.out.up hBi)
                have HBi := Lib.hid (HB.out.trans (hBi.mono HB.out.size))
                have HES := Lib.hid (HE.out.step HM.out HLT.out)
                have HNW := Lib.hid (show newV M b op x = if -1152921504606846976 < lowK M b op x 60 then lowK M b op x 60 else if highK M b op x 60 < 1152921504606846976 then highK M b op x 60 else 0 from rfl)
                clear hBi
                generalize lowK M b op x 60 = lv at *
                generalize highK M b op x 60 = hv at *
                have t0 : decide (hv < lv) = false := decide_eq_false (by omega)
                have v0 := HVi.out.at_ x HLT.out
                have f0 := FB.frozen HVi.out x
                have HV0 := Lib.hid (HVi.out.set x 0)
                have HO0 := Lib.hid (show BitAt (wr.setCell ⟨gb, x, none⟩ (.int .i64 0)) go op from FB.far HOi.out (fun e => HNE.out e.symm) _)
                have HB0 := Lib.hid (set_new (i := x) (v := .int .i64 0) HGB.out HBi.out)
                clear hlh HVi HOi HBi
                go_upto_region 27 with (fail)
                generalize wr.setCell ⟨gb, x, none⟩ (.int .i64 0) = wj at *
                clear t0 v0 f0
                by_cases h1 : -1152921504606846976 < lv
                · have t1 : decide (-1152921504606846976 < lv) = true := decide_eq_true h1
                  have HNV := Lib.hid (show newV M b op x = lv by rw [HNW.out]; exact if_pos h1)
                  have v0 := HV0.out.at_ x HLT.out
                  have f0 := FB.frozen HV0.out x
                  have HV1 := Lib.hid ((HV0.out.set x lv).congr (b := updI b x (newV M b op x)) fun q _ => by rw [HNV.out]; unfold updI; split <;> rfl)
                  have HO1 := Lib.hid (show BitAt (wj.setCell ⟨gb, x, none⟩ (.int .i64 lv)) go op from FB.far HO0.out (fun e => HNE.out e.symm) _)
                  have HB1 := Lib.hid (set_new (i := x) (v := .int .i64 lv) HGB.out HB0.out)
                  go_upto_region 31 with (fail)
                  generalize wj.setCell ⟨gb, x, none⟩ (.int .i64 lv) = wk at *
                  clear v0 f0
                  have o0 := HO1.out.at_ x HLT.out
                  have fo := FB.frozen HO1.out x
                  have HO2 := Lib.hid ((HO1.out.set x false).congr (b := offB op x) fun q _ => rfl)
                  have HV2' := Lib.hid (show VecAt (wk.setCell ⟨go, x, none⟩ (.bool false)) gb (updI b x (newV M b op x)) from FB.far HV1.out HNE.out _)
                  have HB2 := Lib.hid (set_new (i := x) (v := .bool false) HGO.out HB1.out)
                  go_wp2_with fail
                  go_roundw
                  case rel => exact ⟨x + 1, by omega, by have := HLT.out; omega, by go_num, ⟨_, _, HV2'.out, HO2.out, HES.out⟩, HB2.out⟩
                  case measure => simp [intOf]; omega
                · have t1 : decide (-1152921504606846976 < lv) = false := decide_eq_false h1
                  by_cases h2 : hv < 1152921504606846976
                  · have t2 : decide (hv < 1152921504606846976) = true := decide_eq_true h2
                    have HNV := Lib.hid (show newV M b op x = hv by rw [HNW.out]; rw [if_neg h1]; exact if_pos h2)
                    have v0 := HV0.out.at_ x HLT.out
                    have f0 := FB.frozen HV0.out x
                    have HV1 := Lib.hid ((HV0.out.set x hv).congr (b := updI b x (newV M b op x)) fun q _ => by rw [HNV.out]; unfold updI; split <;> rfl)
                    have HO1 := Lib.hid (show BitAt (wj.setCell ⟨gb, x, none⟩ (.int .i64 hv)) go op from FB.far HO0.out (fun e => HNE.out e.symm) _)
                    have HB1 := Lib.hid (set_new (i := x) (v := .int .i64 hv) HGB.out HB0.out)
                    go_upto_region 31 with (fail)
                    generalize wj.setCell ⟨gb, x, none⟩ (.int .i64 hv) = wk at *
                    clear v0 f0
                    have o0 := HO1.out.at_ x HLT.out
                    have fo := FB.frozen HO1.out x
                    have HO2 := Lib.hid ((HO1.out.set x false).congr (b := offB op x) fun q _ => rfl)
                    have HV2' := Lib.hid (show VecAt (wk.setCell ⟨go, x, none⟩ (.bool false)) gb (updI b x (newV M b op x)) from FB.far HV1.out HNE.out _)
                    have HB2 := Lib.hid (set_new (i := x) (v := .bool false) HGO.out HB1.out)
                    go_wp2_with fail
                    go_roundw
                    case rel => exact ⟨x + 1, by omega, by have := HLT.out; omega, by go_num, ⟨_, _, HV2'.out, HO2.out, HES.out⟩, HB2.out⟩
                    case measure => simp [intOf]; omega
                  · have t2 : decide (hv < 1152921504606846976) = false := decide_eq_false h2
                    have HNV := Lib.hid (show newV M b op x = 0 by rw [HNW.out]; rw [if_neg h1]; exact if_neg h2)
                    have HV1 := Lib.hid (HV0.out.congr (b := updI b x (newV M b op x)) fun q _ => by rw [HNV.out])
                    have o0 := HO0.out.at_ x HLT.out
                    have fo := FB.frozen HO0.out x
                    have HO1 := HO0
                    have HB1 := HB0
                    have HO2 := Lib.hid ((HO1.out.set x false).congr (b := offB op x) fun q _ => rfl)
                    have HV2' := Lib.hid (show VecAt (wj.setCell ⟨go, x, none⟩ (.bool false)) gb (updI b x (newV M b op x)) from FB.far HV1.out HNE.out _)
                    have HB2 := Lib.hid (set_new (i := x) (v := .bool false) HGO.out HB1.out)
                    go_wp2_with fail
                    go_roundw
                    case rel => exact ⟨x + 1, by omega, by have := HLT.out; omega, by go_num, ⟨_, _, HV2'.out, HO2.out, HES.out⟩, HB2.out⟩
                    case measure => simp [intOf]; omega
        · obtain rfl : x = 60 := by omega
          have HV2 := Lib.hid hV
          have HB := Lib.hid hB
          have HE := Lib.hid hE
          have HZ2 := Lib.hid (HZ.out.up hB)
          clear hV hO hB hE
          go_wp2_with fail
          go_at_call 13
          refine (meets_yes wr g M HZ2.out gb b HV2.out (HE.out.i64 (by omega)) HE.out.meets).mono ?_
          rintro e w5 ⟨rfl, hB5⟩
          have HB5 := Lib.hid (HB.out.trans (hB5.mono HB.out.size))
          clear hB5
          go_wp2_with fail
          refine bodyPost_ret (results_tmp2 rfl _ _ _) rfl ?_
          exact ⟨gb, rfl, HB5.out⟩
end Go.Proofs.Ytockoolcdhgopaa
