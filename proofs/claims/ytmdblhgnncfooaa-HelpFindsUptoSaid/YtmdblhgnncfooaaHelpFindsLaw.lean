/- HelpFinds: the walk. -/
import Derived.Test.YtmdblhgnncfooaaHLaw
namespace Go.Proofs.Ytmdblhgnncfooaa
open Go.ChangeShapes Go.WideShapes Go.ChangeAt Go.RowKit
open Bits HM
set_option linter.unusedVariables false
set_option linter.unusedSimpArgs false

set_option maxRecDepth 100000 in
set_option maxHeartbeats 1600000 in
theorem helpFinds_walk (w : World) (A : Option Addr) (n c : Nat) (L : List Int) (hL : L.length = n) (hr : n ≤ c ∧ c ≤ maxLen ∧ n ≤ 1048576) (hb : Byt L) (hA : BytesAt w A L) (x : Int) (hx : -9223372036854775808 ≤ x ∧ x ≤ 9223372036854775807) :
    Calls Try.prog 7 #[.slice A n c, .int .i64 x] w fun e w' => e = .returned (.bool true) ∧ Below w.heap.size w w' := by
  have hk := Lib.hid (known_any w)
  have HL := Lib.hid hL
  have HY := Lib.hid hb
  have HA := Lib.hid hA
  obtain ⟨hr1, hr2, hr3⟩ := hr
  have hnot : ∀ (x : Bool) (w : World), (Op.unary .not (.bool x)).run Try.prog w = .ok (.bool (!x)) w := runNot
  clear hL hb hA
  go_enter Try.func7, Try.ntmps7
  go_wp2_with fail
  refine hk.out.mono ?_
  rintro e w1 ⟨rfl, hB⟩
  clear hk
  have hsz := hB.size
  go_upto_region 4 with (fail)
  have hg : Blk (w1.alloc (.cells #[.slice none 0 0] 40)) w1.heap.size 40 #[.slice none 0 0] := Blk.new _ _ _
  have hB1 : Below w.heap.size w (w1.alloc (.cells #[.slice none 0 0] 40)) := hB.alloc hsz _
  generalize w1.alloc (.cells #[.slice none 0 0] 40) = w2 at *
  generalize w1.heap.size = g at *
  have hle := Lib.hid (lend_new hg hB1 hsz A n c L HL.out HY.out hr3 HA.out)
  clear hg hB1 hB
  go_wp2_with fail
  refine hle.out.mono ?_
  rintro e w3 ⟨r, m, rfl, hO, -, -⟩
  clear hle
  have hs := Lib.hid (find_any w3 (some ⟨r, 0, none⟩) n m L x HL.out hO.bytes HY.out)
  go_wp2_with fail
  refine hs.out.mono ?_
  rintro e w4 ⟨rfl, rfl⟩
  have hO4 := hO
  clear hs hO
  have hs := Lib.hid (refFind_any w3 A n c L x HL.out (by omega) (HA.out.below hO4.2.2.2.2.2.2.1) HY.out)
  generalize findV L (x % 256) = S at *
  go_wp2_with fail
  refine hs.out.mono ?_
  rintro e w5 ⟨rfl, rfl⟩
  clear hs
  have hbk := Lib.hid (back_new hO4 A c HA.out)
  clear hO4
  go_wp2_with fail
  refine hbk.out.mono ?_
  rintro e w6 ⟨rfl, hB6, -, -, T, hT⟩
  clear hbk
  have hs := Lib.hid (find_any w6 (some ⟨r, 0, none⟩) n m T x hT.2.1 hT.2.2.2.2.2.1 hT.2.2.1)
  go_wp2_with fail
  refine hs.out.mono ?_
  rintro e w7 ⟨rfl, rfl⟩
  have hT7 := hT
  have hB7 : Below w.heap.size w w6 := hB6
  clear hs hT hB6
  have hs := Lib.hid (copyBytes_own w6 (some ⟨r, 0, none⟩) n m T hT7.2.1 (by omega) hT7.2.2.2.2.2.1)
  go_wp2_with fail
  refine hs.out.mono ?_
  rintro e w8 ⟨v, rfl, hown, hB8⟩
  have hB9 : Below w.heap.size w w8 := hB7.trans (hB8.mono hB7.size)
  obtain ⟨A3, c3, rfl, hat3, hlc3, hcm3⟩ := ownB_slice hown
  have hTL := hT7.2.1
  rw [hTL]
  have hs2 := Lib.hid (refFind_any w8 A3 n c3 T x hTL (by omega) hat3 hT7.2.2.1)
  clear hs hown hB8 hB7 hat3 hT7 hTL
  generalize findV T (x % 256) = S2 at *
  go_wp2_with fail
  refine hs2.out.mono ?_
  rintro e w10 ⟨rfl, rfl⟩
  go_wp2_with fail
  go_ret
  exact ⟨by simp, hB9⟩
end Go.Proofs.Ytmdblhgnncfooaa
