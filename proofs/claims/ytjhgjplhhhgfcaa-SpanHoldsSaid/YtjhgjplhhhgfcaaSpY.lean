/- Contracts of package span: halved and Alu, of all operands. -/
import Derived.Test.YtjhgjplhhhgfcaaSpX
namespace Go.Proofs.Ytjhgjplhhhgfcaa
open Go.ChangeShapes Go.WideShapes Go.ChangeAt Go.RowKit
open Spn
namespace Spc
set_option linter.unusedVariables false
set_option maxRecDepth 100000
theorem lowE_ok' (r : E) (h : r.lo ≤ r.hi) : (lowE r).ok := by
  obtain ⟨h1, h2, h3⟩ := lowE_ok r h
  exact ⟨h1, by unfold LEAST; omega, by unfold TOP; omega⟩
theorem plain_sh {o : Int} (h : plainX o = 11 ∨ plainX o = 12 ∨ plainX o = 13) : o = 11 ∨ o = 12 ∨ o = 13 := by
  unfold plainX at h
  split at h
  · omega
  · split at h
    · omega
    · split at h <;> omega
theorem halved_any (op al ah bl bh l h : Int) (ha : (⟨al, ah⟩ : E).ok) (hb : (⟨bl, bh⟩ : E).ok) (hr : halfX op ⟨al, ah⟩ ⟨bl, bh⟩ = ⟨l, h⟩) (w : World) :
    Calls Try.prog 40 #[.int .i64 op, .agg #[.int .i64 al, .int .i64 ah], .agg #[.int .i64 bl, .int .i64 bh]] w (RetE w l h) := by
  have ka := lowE_ok' ⟨al, ah⟩ ha.1
  have kb := lowE_ok' ⟨bl, bh⟩ hb.1
  obtain ⟨c0, c1, c2⟩ := counts_rng ⟨bl, bh⟩ (lowE ⟨bl, bh⟩) 32 kb (by decide) (by decide)
  unfold halfX at hr
  rcases ex : lowE ⟨al, ah⟩ with ⟨xl, xh⟩
  rcases ey : lowE ⟨bl, bh⟩ with ⟨yl, yh⟩
  rw [ex] at hr ka
  rw [ey] at hr kb c0 c1 c2
  rcases ec : countsX ⟨bl, bh⟩ ⟨yl, yh⟩ 32 with ⟨cl, ch⟩
  rw [ec] at hr c0 c1 c2
  rcases eo : operX op ⟨xl, xh⟩ ⟨yl, yh⟩ ⟨cl, ch⟩ 4294967296 with ⟨o, ⟨pl, ph⟩, ⟨ql, qh⟩⟩
  rw [eo] at hr
  have c2' : ch ≤ 63 := by have : ch ≤ 32 - 1 := c2; omega
  obtain ⟨k1, k2, k3⟩ := oper_ok eo ka kb c0 c1 c2' (by decide)
  exact half1 op al ah bl bh xl xh yl yh cl ch o pl ph ql qh l h ex ey ec eo k1 k2 (fun h => k3 (plain_sh h)) hr w
theorem Alu_any (op alo ahi : Int) (anl anh : Bool) (blo bhi : Int) (bnl bnh : Bool) (n : Bool) (p q : Int) (r s : Bool) (hr : aluS op n ⟨alo, ahi, anl, anh⟩ ⟨blo, bhi, bnl, bnh⟩ = ⟨p, q, r, s⟩) (w : World) :
    Calls Try.prog 16 #[.int .i64 op, .bool n, .agg #[.int .i64 alo, .int .i64 ahi, .bool anl, .bool anh], .agg #[.int .i64 blo, .int .i64 bhi, .bool bnl, .bool bnh]] w (RetS w p q r s) := by
  have ka := rd_ok ⟨alo, ahi, anl, anh⟩
  have kb := rd_ok ⟨blo, bhi, bnl, bnh⟩
  rcases ea : rd ⟨alo, ahi, anl, anh⟩ with ⟨al, ah⟩
  rcases eb : rd ⟨blo, bhi, bnl, bnh⟩ with ⟨bl, bh⟩
  rw [ea] at ka
  rw [eb] at kb
  exact Alu_of op alo ahi anl anh blo bhi bnl bnh n al ah bl bh ea eb (fun _ _ l h e w => halved_any op al ah bl bh l h ka kb e w) p q r s hr w
end Spc
end Go.Proofs.Ytjhgjplhhhgfcaa
