/- The law's met. -/
import Derived.Test.YtockoolcdhgopaaZT
namespace Go.Proofs.Ytockoolcdhgopaa
open Go.ChangeShapes Go.WideShapes Go.ChangeAt Go.RowKit
open Zon
set_option linter.unusedVariables false
set_option maxRecDepth 100000
def metB (a : Nat → Int) (x : Con) : Bool := (wrong1 x == 0) && !(decide (x.c < a x.i.toNat - a x.j.toNat))
def metL (L : List Con) (a : Nat → Int) : List Con := L.filter (metB a)
set_option maxHeartbeats 4000000 in
theorem met_any (w : World) (A : Option Addr) (n c : Nat) (L : List Con) (i : ConIn w A n c L) (ga : Nat) (a : Nat → Int) (ha : VecAt w ga a) (hi : ∀ q, q < 60 → I64 (a q)) :
    Calls Try.prog 12 #[.slice A n c, vecV ga] w (Listed w (metL L a)) := by
  have I := Lib.hid i
  have hn := i.reach
  have hcap := i.cap
  have HV := Lib.hid ha
  have HI := Lib.hid hi
  clear i ha hi
  go_enter Try.func12, Try.ntmps12
  go_wp2_with fail
  go_loopw [6, 5] (fun i v wr => ∃ k : Nat, k ≤ n ∧ i = .int .i64 k ∧ OwnC 86 wr w.heap.size v ((L.take k).filter (metB a)) ∧ Below w.heap.size w wr) (fun i _ _ => (n - intOf i).toNat)
  case atStart => exact ⟨0, Nat.zero_le _, rfl, OwnC.nil _ _ _, Below.refl _ _⟩
  case round =>
    obtain ⟨k, hk, rfl, hO, hB⟩ := hrel
    by_cases hlt : k < n
    · have hlt' : (k : Int) < n := by omega
      have hk0 : (0 : Int) ≤ k := by omega
      obtain ⟨b, off, rfl, hbl, -⟩ := I.out.at_ (by have := I.out.len; omega)
      obtain ⟨x, hx, hbr, hxx⟩ := (I.out.at_.below hB).get (k := k) (by have := I.out.len; omega)
      have hk1 : ((k : Int) + 1) ≤ c := by omega
      have hck : ¬ c = k := by omega
      have HXX := Lib.hid hxx
      obtain ⟨x0, x1, x2⟩ := hxx
      have HFN := Lib.hid (filter_next hx (metB a))
      have HLL := Lib.hid (show ((L.take k).filter (metB a)).length + 1 ≤ 8000000000000 by have := filter_len L k (metB a); omega)
      have HW := Lib.hid (fun m => refWrong_any (wr.drewN m) (some ⟨b, off + k * 3, none⟩) 1 (c - k) [x] rfl (by omega) (cons_sub hbr HXX.out))
      have HSB := Lib.hid (show metB a x = ((wrong1 x == 0) && !(decide (x.c < a x.i.toNat - a x.j.toNat))) from rfl)
      have HRX := Lib.hid (I.out.rng x (List.mem_of_getElem? hx))
      have hV2 : VecAt wr ga a := FB.below HV.out hB HV.out.lt
      have HO := Lib.hid hO
      have HB := Lib.hid hB
      obtain ⟨A3, m, c3, rfl, HM⟩ := hO.form'
      have HSZ := Lib.hid (fun o => Nat.le_trans HB.out.size (below_box wr o).size)
      clear hO hB hx hbl hbr
      generalize (L.take k).filter (metB a) = T at *
      by_cases h0 : wrong1 x = 0
      · obtain ⟨⟨g1, g2⟩, ⟨g3, g4⟩, g5⟩ := wrong1_zero h0
        obtain ⟨ni, hni⟩ : ∃ ni : Nat, x.i = ni := ⟨x.i.toNat, by omega⟩
        obtain ⟨nj, hnj⟩ : ∃ nj : Nat, x.j = nj := ⟨x.j.toNat, by omega⟩
        have hni1 : ni < 60 := by omega
        have hnj1 : nj < 60 := by omega
        have v0 := hV2.at_ ni hni1
        have v1 := hV2.at_ nj hnj1
        have hni2 : (ni : Int) < 60 := by omega
        have hnj2 : (nj : Int) < 60 := by omega
        have hni3 : (0 : Int) ≤ ni := by omega
        have hnj3 : (0 : Int) ≤ nj := by omega
        rw [hni] at x0
        rw [hnj] at x1
        have HSC := Lib.hid (show metB a x = !(decide (x.c < a ni - a nj)) by rw [HSB.out, h0, hni, hnj]; rfl)
        have HW1 := Lib.hid (fun m => show Calls Try.prog 29 #[.slice (some ⟨b, off + k * 3, none⟩) 1 (c - k)] (wr.drewN m) (fun e w' => e = .returned (.int .i64 0) ∧ w' = wr.drewN m) from (HW.out m).mono fun e w' h => ⟨by rw [h.1, wrongL_one, h0], h.2.symm⟩)
        have HXE := Lib.hid (show x = ⟨ni, nj, x.c⟩ by cases x; simp only at hni hnj; rw [hni, hnj])
        have HBY := Lib.hid (fun W => beyond_any (a ni) (a nj) x.c W (HI.out ni hni1) (HI.out nj hnj1) (by omega))
        generalize x.c = xc at *
        clear h0 g1 g2 g3 g4 g5 hni hnj HW HSB hV2
        cases hd : decide (xc < a ni - a nj)
        all_goals
          rw [hd] at HSC HBY
          rw [HSC.out] at HFN
          have HD := Lib.hid hd
          clear hd HSC
          go_upto_region 5 with (fail)
          go_quiet ((first
            | (go_at_call 29; exact Calls.quiet_of_same (HW1.out _))
            | (go_at_call 15; exact Calls.quiet_of_same ((HBY.out _).mono fun e w' h => ⟨h.1, h.2.symm⟩))))
          clear v0 v1
        · have y0 : (wr.drewN nq).cell? ⟨b, off + k * 3, none⟩ = some (.int .i64 ni) := x0
          have y1 : (wr.drewN nq).cell? ⟨b, off + k * 3 + 1, none⟩ = some (.int .i64 nj) := x1
          have y2 : (wr.drewN nq).cell? ⟨b, off + k * 3 + 2, none⟩ = some (.int .i64 xc) := x2
          have HOd := Lib.hid (show OwnC 86 (wr.drewN nq) w.heap.size (.slice A3 m c3) T from HO.out)
          have HBd := Lib.hid (below_drewN' HB.out nq)
          generalize wr.drewN nq = W at *
          clear x0 x1 x2 HO HB HSZ HW1 HBY HXX
          have HSZ := Lib.hid (fun o => Nat.le_trans HBd.out.size (below_box W o).size)
          go_wp2_with (at_builtin; (refine append_con 23 86 Try.underlying23 rcon_info _ rfl (.tmp 45) (.tmp 50) rfl w.heap.size _ _ rfl (HOd.out.up (below_box W _)) _ 1 _ [_] rfl rfl (cons_one W _ _ _ _) HLL.out (HSZ.out _) ?_; intro v' w' hown' hB'))
          go_roundw
          case rel => exact ⟨k + 1, by omega, by go_num, by rw [HFN.out, HXE.out]; exact hown', HBd.out.trans (((below_box W _).mono HBd.out.size).trans hB')⟩
          case measure => simp [intOf]; omega
        · go_wp2_with fail
          go_roundw
          case rel => exact ⟨k + 1, by omega, by go_num, by rw [HFN.out]; rw [if_neg (by decide), List.append_nil]; exact HO.out, below_drewN' HB.out _⟩
          case measure => simp [intOf]; omega
      · have hb0 : (wrong1 x == 0) = false := by rw [beq_eq_false_iff_ne]; exact h0
        have HSC := Lib.hid (show metB a x = false by rw [HSB.out, hb0]; rfl)
        rw [HSC.out] at HFN
        have HW1 := Lib.hid (fun m => show Calls Try.prog 29 #[.slice (some ⟨b, off + k * 3, none⟩) 1 (c - k)] (wr.drewN m) (fun e w' => e = .returned (.int .i64 (wrong1 x)) ∧ w' = wr.drewN m) from (HW.out m).mono fun e w' h => ⟨by rw [h.1, wrongL_one], h.2.symm⟩)
        generalize wrong1 x = e1 at *
        clear h0 HSB HSC HW
        go_upto_region 5 with (fail)
        go_quiet ((go_at_call 29; exact Calls.quiet_of_same (HW1.out _)))
        go_wp2_with fail
        go_roundw
        case rel => exact ⟨k + 1, by omega, by go_num, by rw [HFN.out]; rw [if_neg (by decide), List.append_nil]; exact HO.out, below_drewN' HB.out _⟩
        case measure => simp [intOf]; omega
    · obtain rfl : k = n := by omega
      have hjn : decide ((k : Int) < k) = false := decide_eq_false (by omega)
      rw [List.take_of_length_le (by rw [I.out.len]; omega)] at hO
      have hO' : Owned 86 w (metL L a) (.returned u5) wr := ⟨_, rfl, hO, hB⟩
      have HO := Lib.hid hO'.listed
      clear hO hB hO'
      go_wp2_with fail
      go_ret
      exact HO.out
end Go.Proofs.Ytockoolcdhgopaa
