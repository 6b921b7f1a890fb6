/- SpanTurned: its walk. -/
import Derived.Test.YtjhgjplhhhgfcaaSpV
import Derived.Test.YtjhgjplhhhgfcaaSpW
import Derived.Deep.RegionHeld3
namespace Go.Proofs.Ytjhgjplhhhgfcaa
open Go.ChangeShapes Go.WideShapes Go.ChangeAt Go.RowKit
open Spn Spc
set_option linter.unusedVariables false
set_option maxRecDepth 100000
/-- the law's memory: its span, and what the three calls tell -/
def TurnW (w0 : World) (lo hi : Int) (nl nh : Bool) (gp gq gr : Nat) (pa pb qa qb ra rb : Int) (pn pm qn qm rn rm : Bool) (w : World) : Prop :=
  Blk w gp 23 #[.int .i64 pa, .int .i64 pb, .bool pn, .bool pm] ∧ Blk w gq 23 #[.int .i64 qa, .int .i64 qb, .bool qn, .bool qm] ∧ Blk w gr 23 #[.int .i64 ra, .int .i64 rb, .bool rn, .bool rm] ∧ Below w0.heap.size w0 w
theorem TurnW.up {w0 w w' : World} {lo hi : Int} {nl nh : Bool} {gp gq gr : Nat} {pa pb qa qb ra rb : Int} {pn pm qn qm rn rm : Bool} (h : TurnW w0 lo hi nl nh gp gq gr pa pb qa qb ra rb pn pm qn qm rn rm w) (hb : Below w.heap.size w w') : TurnW w0 lo hi nl nh gp gq gr pa pb qa qb ra rb pn pm qn qm rn rm w' :=
  ⟨h.1.up hb, h.2.1.up hb, h.2.2.1.up hb, nx h.2.2.2 hb⟩
theorem turnS {w0 w : World} {lo hi : Int} {nl nh : Bool} {gp gq gr : Nat} {pa pb qa qb ra rb : Int} {pn pm qn qm rn rm : Bool} (h : TurnW w0 lo hi nl nh gp gq gr pa pb qa qb ra rb pn pm qn qm rn rm w) :
    w.cell? ⟨gp, 0, none⟩ = some (.int .i64 pa) ∧ w.cell? ⟨gp, 1, none⟩ = some (.int .i64 pb) ∧ w.cell? ⟨gp, 2, none⟩ = some (.bool pn) ∧ w.cell? ⟨gp, 3, none⟩ = some (.bool pm) ∧
    w.cell? ⟨gq, 0, none⟩ = some (.int .i64 qa) ∧ w.cell? ⟨gq, 1, none⟩ = some (.int .i64 qb) ∧ w.cell? ⟨gq, 2, none⟩ = some (.bool qn) ∧ w.cell? ⟨gq, 3, none⟩ = some (.bool qm) ∧
    w.cell? ⟨gr, 0, none⟩ = some (.int .i64 ra) ∧ w.cell? ⟨gr, 1, none⟩ = some (.int .i64 rb) ∧ w.cell? ⟨gr, 2, none⟩ = some (.bool rn) ∧ w.cell? ⟨gr, 3, none⟩ = some (.bool rm) ∧
    TurnW w0 lo hi nl nh gp gq gr pa pb qa qb ra rb pn pm qn qm rn rm w := by
  obtain ⟨⟨a0, a1, a2, a3⟩, -, -⟩ := cells4 h.1
  obtain ⟨⟨b0, b1, b2, b3⟩, -, -⟩ := cells4 h.2.1
  obtain ⟨⟨c0, c1, c2, c3⟩, -, -⟩ := cells4 h.2.2.1
  exact ⟨a0, a1, a2, a3, b0, b1, b2, b3, c0, c1, c2, c3, h⟩
theorem TurnW.drew {w0 w : World} {lo hi : Int} {nl nh : Bool} {gp gq gr : Nat} {pa pb qa qb ra rb : Int} {pn pm qn qm rn rm : Bool} (h : TurnW w0 lo hi nl nh gp gq gr pa pb qa qb ra rb pn pm qn qm rn rm w) : TurnW w0 lo hi nl nh gp gq gr pa pb qa qb ra rb pn pm qn qm rn rm w.drew :=
  ⟨h.1.drew, h.2.1.drew, h.2.2.1.drew, h.2.2.2.drew⟩
theorem nx2 {w0 w : World} (hB : Below w0.heap.size w0 w) (w' : World) (o : Obj) (e : w = w' := by rfl) : Below w0.heap.size w0 (w'.alloc o) := by
  subst e
  exact nx hB (below_box' _ o)
set_option maxHeartbeats 4000000 in
theorem spanTurned_walk (w : World) (k : Int) (hk : -9223372036854775808 ≤ k ∧ k ≤ 9223372036854775807) (g : Bool) (lo hi : Int) (nl nh : Bool) (x : Int) (hx : -9223372036854775808 ≤ x ∧ x ≤ 9223372036854775807) :
    Calls Try.prog 6 #[.int .i64 k, .bool g, .agg #[.int .i64 lo, .int .i64 hi, .bool nl, .bool nh], .int .i64 x] w fun e w' => e = .returned (.bool true) ∧ Below w.heap.size w w' := by
  have H2 := Lib.hid (below_box' w (.cells #[.int .i64 lo, .int .i64 hi, .bool nl, .bool nh] 23))
  have b1 := Lib.hid (Blk.new w 23 #[.int .i64 lo, .int .i64 hi, .bool nl, .bool nh])
  have HI := Lib.hid (fun w => inside_any lo hi nl nh x w)
  have HA := Lib.hid (fun w => awake_any w)
  have hv := ins_has ⟨lo, hi, nl, nh⟩ x hx
  rcases ep : swapS k g ⟨lo, hi, nl, nh⟩ with ⟨pa, pb, pn, pm⟩
  rcases eq : extS k g ⟨lo, hi, nl, nh⟩ with ⟨qa, qb, qn, qm⟩
  rcases er : sp (lowE (rd ⟨lo, hi, nl, nh⟩)) with ⟨ra, rb, rn, rm⟩
  have HP := Lib.hid (fun w => Swap_any k g lo hi nl nh pa pb pn pm ep w)
  have HQ := Lib.hid (fun w => Extend_any k g lo hi nl nh qa qb qn qm eq w)
  have HR := Lib.hid (fun w => Low_any lo hi nl nh ra rb rn rm er w)
  have sp1 : soundB ⟨pa, pb, pn, pm⟩ = true := by rw [← ep]; exact swapS_sound k g _
  have sq1 : soundB ⟨qa, qb, qn, qm⟩ = true := by rw [← eq]; exact extS_sound k g _
  have sr1 : soundB ⟨ra, rb, rn, rm⟩ = true := by rw [← er]; exact lowS_sound _
  have hp := swapS_has k g ⟨lo, hi, nl, nh⟩ hv
  have hq := extS_has k g ⟨lo, hi, nl, nh⟩ hv
  have hr := lowS_has ⟨lo, hi, nl, nh⟩ hv
  rw [ep] at hp
  rw [eq] at hq
  rw [er] at hr
  rw [← and32] at hr
  generalize insX ⟨lo, hi, nl, nh⟩ x = v at *
  have HSP := Lib.hid (fun w => sound_any pa pb pn pm w)
  have HSQ := Lib.hid (fun w => sound_any qa qb qn qm w)
  have HSR := Lib.hid (fun w => sound_any ra rb rn rm w)
  rw [sp1] at HSP
  rw [sq1] at HSQ
  rw [sr1] at HSR
  have HS1 := Lib.hid (fun w => refSwap_any k g v w)
  have HS2 := Lib.hid (fun w => refExtend_any k g v w)
  rcases e1 : rd ⟨pa, pb, pn, pm⟩ with ⟨p1, p2⟩
  rcases e2 : rd ⟨qa, qb, qn, qm⟩ with ⟨q1, q2⟩
  rcases e3 : rd ⟨ra, rb, rn, rm⟩ with ⟨r1, r2⟩
  rw [e1] at hp
  rw [e2] at hq
  rw [e3] at hr
  have HH1 := Lib.hid (fun w => has_any pa pb pn pm (swapI k g v) p1 p2 e1 w)
  have HH2 := Lib.hid (fun w => has_any qa qb qn qm (extI k g v) q1 q2 e2 w)
  have HH3 := Lib.hid (fun w => has_any ra rb rn rm (bits BinOp.and IntKind.i64 v 4294967295) r1 r2 e3 w)
  rw [hp] at HH1
  rw [hq] at HH2
  rw [hr] at HH3
  generalize swapI k g v = s1 at *
  generalize extI k g v = s2 at *
  generalize hand : bits BinOp.and IntKind.i64 v 4294967295 = s3 at *
  have HAN := Lib.hid hand
  clear hp hq hr e1 e2 e3 sp1 sq1 sr1 ep eq er hv hk hx hand
  go_enter Try.func6, Try.ntmps6
  go_wp2_with fail
  refine (HI.out _).mono ?_
  rintro e w1 ⟨rfl, hB⟩
  have X1 := Lib.hid (b1.out.up hB)
  have B1 := Lib.hid (nx H2.out hB)
  clear hB b1 H2
  obtain ⟨⟨c0, c1, c2, c3⟩, -, c8⟩ := cells4 X1.out
  go_wp2_with fail
  refine (HP.out _).mono ?_
  rintro e w2 ⟨rfl, hB⟩
  have X2 := Lib.hid ((X1.out.up hB).up (below_box' w2 (.cells #[.int .i64 pa, .int .i64 pb, .bool pn, .bool pm] 23)))
  have P2 := Lib.hid (Blk.new w2 23 #[.int .i64 pa, .int .i64 pb, .bool pn, .bool pm])
  have B2 := Lib.hid (nx (nx B1.out hB) (below_box' w2 (.cells #[.int .i64 pa, .int .i64 pb, .bool pn, .bool pm] 23)))
  clear hB X1 B1 c0 c1 c2 c3 c8
  obtain ⟨⟨c0, c1, c2, c3⟩, -, c8⟩ := cells4 X2.out
  go_wp2_with fail
  refine (HQ.out _).mono ?_
  rintro e w3 ⟨rfl, hB⟩
  have hb := nx2 hB w3 (.cells #[.int .i64 qa, .int .i64 qb, .bool qn, .bool qm] 23)
  have X3 := Lib.hid (X2.out.up hb)
  have P3 := Lib.hid (P2.out.up hb)
  have Q3 := Lib.hid (Blk.new w3 23 #[.int .i64 qa, .int .i64 qb, .bool qn, .bool qm])
  have B3 := Lib.hid (nx B2.out hb)
  clear hB hb X2 P2 B2 c0 c1 c2 c3 c8
  obtain ⟨⟨c0, c1, c2, c3⟩, -, c8⟩ := cells4 X3.out
  go_wp2_with fail
  refine (HR.out _).mono ?_
  rintro e w4 ⟨rfl, hB⟩
  have hb := nx2 hB w4 (.cells #[.int .i64 ra, .int .i64 rb, .bool rn, .bool rm] 23)
  have hW : TurnW w lo hi nl nh w2.heap.size w3.heap.size w4.heap.size pa pb qa qb ra rb pn pm qn qm rn rm (w4.alloc (.cells #[.int .i64 ra, .int .i64 rb, .bool rn, .bool rm] 23)) :=
    ⟨P3.out.up hb, Q3.out.up hb, Blk.new w4 _ _, nx B3.out hb⟩
  have HW := Lib.hid hW
  clear hB hb hW X3 P3 Q3 B3 c0 c1 c2 c3 c8
  obtain ⟨a0, a1, a2, a3, b0, b1, b2, b3, c0, c1, c2, c3, -⟩ := turnS HW.out
  go_wp2_with fail
  refine (HSP.out _).mono ?_
  rintro e w5 ⟨rfl, hB⟩
  have HW5 := Lib.hid (HW.out.up hB)
  clear hB a0 a1 a2 a3 b0 b1 b2 b3 c0 c1 c2 c3 HW
  obtain ⟨a0, a1, a2, a3, b0, b1, b2, b3, c0, c1, c2, c3, -⟩ := turnS HW5.out
  go_wp2_with fail
  refine (HSQ.out _).mono ?_
  rintro e w6 ⟨rfl, hB⟩
  have HW6 := Lib.hid (HW5.out.up hB)
  clear hB a0 a1 a2 a3 b0 b1 b2 b3 c0 c1 c2 c3 HW5
  obtain ⟨a0, a1, a2, a3, b0, b1, b2, b3, c0, c1, c2, c3, -⟩ := turnS HW6.out
  go_wp2_with fail
  refine (HSR.out _).mono ?_
  rintro e w7 ⟨rfl, hB⟩
  have HW7 := Lib.hid (HW6.out.up hB)
  clear hB a0 a1 a2 a3 b0 b1 b2 b3 c0 c1 c2 c3 HW6
  go_wp2_with fail
  refine (HA.out _).mono ?_
  rintro e w8 ⟨rfl, hB⟩
  have HW8 := Lib.hid (HW7.out.up hB).drew
  clear hB HW7 HI HP HQ HR HA HSP HSQ HSR
  go_wp2_with fail
  go_region_held3 (fun w' => w'.cell? ⟨w2.heap.size, 0, none⟩ = some (.int .i64 pa) ∧ w'.cell? ⟨w2.heap.size, 1, none⟩ = some (.int .i64 pb) ∧ w'.cell? ⟨w2.heap.size, 2, none⟩ = some (.bool pn) ∧ w'.cell? ⟨w2.heap.size, 3, none⟩ = some (.bool pm) ∧ w'.cell? ⟨w3.heap.size, 0, none⟩ = some (.int .i64 qa) ∧ w'.cell? ⟨w3.heap.size, 1, none⟩ = some (.int .i64 qb) ∧ w'.cell? ⟨w3.heap.size, 2, none⟩ = some (.bool qn) ∧ w'.cell? ⟨w3.heap.size, 3, none⟩ = some (.bool qm) ∧ w'.cell? ⟨w4.heap.size, 0, none⟩ = some (.int .i64 ra) ∧ w'.cell? ⟨w4.heap.size, 1, none⟩ = some (.int .i64 rb) ∧ w'.cell? ⟨w4.heap.size, 2, none⟩ = some (.bool rn) ∧ w'.cell? ⟨w4.heap.size, 3, none⟩ = some (.bool rm) ∧ TurnW w lo hi nl nh w2.heap.size w3.heap.size w4.heap.size pa pb qa qb ra rb pn pm qn qm rn rm w')
    (first | with_reducible exact turnS HW8.out | with_reducible exact turnS HW9.out | with_reducible exact turnS HW10.out | with_reducible exact turnS HW11.out | with_reducible exact turnS HW12.out | with_reducible exact turnS HW13.out)
    (first | (go_at_call 29; (with_reducible refine (HS1.out _).mono ?_); rintro e w9 ⟨rfl, hB⟩; have HW9 := Lib.hid (HW8.out.up hB); clear hB)
           | (go_at_call 13; (with_reducible refine (HH1.out _).mono ?_); rintro e w10 ⟨rfl, hB⟩; have HW10 := Lib.hid (HW9.out.up hB); clear hB)
           | (go_at_call 30; (with_reducible refine (HS2.out _).mono ?_); rintro e w11 ⟨rfl, hB⟩; have HW11 := Lib.hid (HW10.out.up hB); clear hB)
           | (go_at_call 13; (with_reducible refine (HH2.out _).mono ?_); rintro e w12 ⟨rfl, hB⟩; have HW12 := Lib.hid (HW11.out.up hB); clear hB)
           | (go_at_call 13; (try rw [HAN.out]); (with_reducible refine (HH3.out _).mono ?_); rintro e w13 ⟨rfl, hB⟩; have HW13 := Lib.hid (HW12.out.up hB); clear hB))
  rename_i hh
  obtain ⟨-, -, -, -, -, -, -, -, -, -, -, -, hW⟩ := hh
  go_wp2_with fail
  go_ret
  exact ⟨rfl, hW.2.2.2⟩
end Go.Proofs.Ytjhgjplhhhgfcaa
