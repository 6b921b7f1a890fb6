/- Contracts of package span: bits.Len64, filled. -/
import Derived.Test.YtjhgjplhhhgfcaaGreatSpI
namespace Go.Proofs.YtjhgjplhhhgfcaaGreat
open Go.ChangeShapes Go.WideShapes Go.ChangeAt Go.RowKit
open Spn
namespace Spc
set_option linter.unusedVariables false
set_option maxRecDepth 100000
theorem tab_size : Lib.len8tab.size = 256 := by decide +kernel
theorem tab_key : ∀ n : Fin 256, (Lib.len8tab[n.val]'(by rw [tab_size]; exact n.2)).toNat = Lib.bitLen n.val := by decide +kernel
theorem tab_at (n : Nat) (h : n < Lib.len8tab.size) : (Lib.len8tab[n]'h).toNat = Lib.bitLen n := tab_key ⟨n, by rw [← tab_size]; exact h⟩
theorem bl8 (n : Nat) (h : n < 256) : Lib.bitLen n ≤ 8 := Lib.bitLen_le8 ⟨n, h⟩
theorem w64_len (k : Int) (m : Nat) (h : m ≤ 8) (h0 : 0 ≤ k) (h1 : k ≤ 100) : wrap64 (k + wrap64 (m : Int)) = k + m := by
  rw [IntWalk.wrap64_in (m : Int) (by omega), IntWalk.wrap64_in _ (by omega)]
theorem w64_len0 (m : Nat) (h : m ≤ 8) : wrap64 (wrap64 (m : Int)) = m := by
  rw [IntWalk.wrap64_in (m : Int) (by omega), IntWalk.wrap64_in _ (by omega)]
theorem len_56 (x : Int) (h0 : 0 ≤ x) (h1 : x ≤ 18446744073709551615) (hl : 72057594037927936 ≤ x) (hu : x / 72057594037927936 < 256) (h : (x / 4294967296 / 65536 / 256).toNat < Lib.len8tab.size) : wrap64 (56 + wrap64 ((Lib.len8tab[(x / 4294967296 / 65536 / 256).toNat]'h).toNat : Int)) = (Lib.bitLen x.toNat : Int) := by
  have q : (x / 4294967296 / 65536 / 256).toNat = x.toNat / 72057594037927936 := by omega
  have l := bl8 (x.toNat / 72057594037927936) (by omega)
  have s := Lib.bitLen_shift56 x.toNat (by omega) (by omega)
  rw [tab_at, q, w64_len _ _ l (by decide) (by decide), s]
  omega
theorem len_48 (x : Int) (h0 : 0 ≤ x) (h1 : x ≤ 18446744073709551615) (hl : 281474976710656 ≤ x) (hu : x / 281474976710656 < 256) (h : (x / 4294967296 / 65536).toNat < Lib.len8tab.size) : wrap64 (48 + wrap64 ((Lib.len8tab[(x / 4294967296 / 65536).toNat]'h).toNat : Int)) = (Lib.bitLen x.toNat : Int) := by
  have q : (x / 4294967296 / 65536).toNat = x.toNat / 281474976710656 := by omega
  have l := bl8 (x.toNat / 281474976710656) (by omega)
  have s := Lib.bitLen_shift48 x.toNat (by omega) (by omega)
  rw [tab_at, q, w64_len _ _ l (by decide) (by decide), s]
  omega
theorem len_40 (x : Int) (h0 : 0 ≤ x) (h1 : x ≤ 18446744073709551615) (hl : 1099511627776 ≤ x) (hu : x / 1099511627776 < 256) (h : (x / 4294967296 / 256).toNat < Lib.len8tab.size) : wrap64 (40 + wrap64 ((Lib.len8tab[(x / 4294967296 / 256).toNat]'h).toNat : Int)) = (Lib.bitLen x.toNat : Int) := by
  have q : (x / 4294967296 / 256).toNat = x.toNat / 1099511627776 := by omega
  have l := bl8 (x.toNat / 1099511627776) (by omega)
  have s := Lib.bitLen_shift40 x.toNat (by omega) (by omega)
  rw [tab_at, q, w64_len _ _ l (by decide) (by decide), s]
  omega
theorem len_32 (x : Int) (h0 : 0 ≤ x) (h1 : x ≤ 18446744073709551615) (hl : 4294967296 ≤ x) (hu : x / 4294967296 < 256) (h : (x / 4294967296).toNat < Lib.len8tab.size) : wrap64 (32 + wrap64 ((Lib.len8tab[(x / 4294967296).toNat]'h).toNat : Int)) = (Lib.bitLen x.toNat : Int) := by
  have q : (x / 4294967296).toNat = x.toNat / 4294967296 := by omega
  have l := bl8 (x.toNat / 4294967296) (by omega)
  have s := Lib.bitLen_shift32 x.toNat (by omega) (by omega)
  rw [tab_at, q, w64_len _ _ l (by decide) (by decide), s]
  omega
theorem len_24 (x : Int) (h0 : 0 ≤ x) (h1 : x ≤ 18446744073709551615) (hl : 16777216 ≤ x) (hu : x / 16777216 < 256) (h : (x / 65536 / 256).toNat < Lib.len8tab.size) : wrap64 (24 + wrap64 ((Lib.len8tab[(x / 65536 / 256).toNat]'h).toNat : Int)) = (Lib.bitLen x.toNat : Int) := by
  have q : (x / 65536 / 256).toNat = x.toNat / 16777216 := by omega
  have l := bl8 (x.toNat / 16777216) (by omega)
  have s := Lib.bitLen_shift24 x.toNat (by omega) (by omega)
  rw [tab_at, q, w64_len _ _ l (by decide) (by decide), s]
  omega
theorem len_16 (x : Int) (h0 : 0 ≤ x) (h1 : x ≤ 18446744073709551615) (hl : 65536 ≤ x) (hu : x / 65536 < 256) (h : (x / 65536).toNat < Lib.len8tab.size) : wrap64 (16 + wrap64 ((Lib.len8tab[(x / 65536).toNat]'h).toNat : Int)) = (Lib.bitLen x.toNat : Int) := by
  have q : (x / 65536).toNat = x.toNat / 65536 := by omega
  have l := bl8 (x.toNat / 65536) (by omega)
  have s := Lib.bitLen_shift16 x.toNat (by omega) (by omega)
  rw [tab_at, q, w64_len _ _ l (by decide) (by decide), s]
  omega
theorem len_8 (x : Int) (h0 : 0 ≤ x) (h1 : x ≤ 18446744073709551615) (hl : 256 ≤ x) (hu : x / 256 < 256) (h : (x / 256).toNat < Lib.len8tab.size) : wrap64 (8 + wrap64 ((Lib.len8tab[(x / 256).toNat]'h).toNat : Int)) = (Lib.bitLen x.toNat : Int) := by
  have q : (x / 256).toNat = x.toNat / 256 := by omega
  have l := bl8 (x.toNat / 256) (by omega)
  have s := Lib.bitLen_shift8 x.toNat (by omega) (by omega)
  rw [tab_at, q, w64_len _ _ l (by decide) (by decide), s]
  omega
set_option maxHeartbeats 1000000 in
theorem len_any (x : Int) (w : World) (h0 : 0 ≤ x) (h1 : x ≤ 18446744073709551615) :
    Calls Tryz.prog 143 #[.int .u64 x] w fun e w' => e = .returned (.int .i64 (Lib.bitLen x.toNat)) ∧ w = w' := by
  have HS := Lib.hid tab_size
  go_enter Tryz.func143, Tryz.ntmps143
  go_wp2
  all_goals first
    | (go_ret; refine ⟨congrArg Ending.returned (congrArg (Value.int IntKind.i64) ?_), rfl⟩; first | exact len_56 x h0 h1 (by omega) (by omega) _ | exact len_48 x h0 h1 (by omega) (by omega) _ | exact len_40 x h0 h1 (by omega) (by omega) _ | exact len_32 x h0 h1 (by omega) (by omega) _ | exact len_24 x h0 h1 (by omega) (by omega) _ | exact len_16 x h0 h1 (by omega) (by omega) _ | exact len_8 x h0 h1 (by omega) (by omega) _ | (rw [tab_at]; exact w64_len0 _ (bl8 x.toNat (by omega))))
    | (exfalso; have hs := HS.out; omega)
end Spc
end Go.Proofs.YtjhgjplhhhgfcaaGreat
