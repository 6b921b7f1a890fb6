/- The book of numbers that were handed out (warrantlaw00.Book): the state. -/
import Derived.Test.YtkfcfoidaalnlaaBkO
namespace Go.Proofs.Ytkfcfoidaalnlaa.Bk
open Go.ChangeShapes Go.WideShapes Go.ChangeAt Go.RowKit
open Bits HM
set_option linter.unusedVariables false
set_option linter.unusedSimpArgs false

/-- rows of slices of ints -/
def OwnS (w : World) (base : Nat) (v : Value) (L : List Value) : Prop := w.ownsRow base 22 1 v L.length L
theorem slice_info : (Try.prog.info? 22).map (fun i => (i.zero, i.size, i.bytes)) = some (some (.slice none 0 0), 1, 24) := by kernel_rfl

theorem OwnS.stab {w w' : World} {x : Option Nat} {base : Nat} {v : Value} {L : List Value} (h : OwnS w base v L) (hs : StabS x w w') (hne : ∀ b, v.ownBlock = some b → some b ≠ x) : OwnS w' base v L := by
  obtain ⟨h1, h2⟩ := h
  refine ⟨h1, ?_⟩
  rcases h2 with h2 | ⟨g, cap, cur, rfl, hg, hh, h3⟩
  · exact .inl h2
  · exact .inr ⟨g, cap, cur, rfl, hg, (hs g cur _ (0, 0) rfl hh (hne g rfl)).trans hh, h3⟩
theorem OwnS.grownI {w w' : World} {base : Nat} {v : Value} {L : List Value} (h : OwnS w base v L) (hg : w.grownBy w' v.ownBlock) : StabI none w w' := StabI.grownL h rfl hg
theorem OwnS.grownS {w w' : World} {base : Nat} {v : Value} {L : List Value} (h : OwnS w base v L) (hg : w.grownBy w' v.ownBlock) : StabS v.ownBlock w w' := StabS.grown hg

/-- a caller's marks -/
def markB (f : Int) (j : Nat) : Int := (37 * f + 11 * j + f / 7) % 256
def marksB (f : Int) (n : Nat) : List Int := (List.range n).map (markB f)
theorem ownFn_any (f : Int) (j : Nat) (hf : 0 ≤ f ∧ f ≤ 4194304) (hj : j ≤ 4194304) (w : World) :
    Calls Try.prog 44 #[.int .i64 f, .int .i64 j] w fun e w' => e = .returned (.int .u8 (markB f j)) ∧ w = w' := by
  obtain ⟨f1, f2⟩ := hf
  have HQ : f.tdiv 7 = f / 7 := Int.tdiv_eq_ediv_of_nonneg f1
  have HM : IntKind.u8.wrap (37 * f + 11 * (j : Int) + f / 7) = markB f j := by
    unfold markB
    simp only [IntKind.wrap, IntKind.signed, IntKind.bits]
    simp
  have HMM := Lib.hid HM
  clear HM
  go_enter Try.func44, Try.ntmps44
  go_wp2_with fail
  go_ret
  exact ⟨by rw [← HMM.out]; rfl, rfl⟩
theorem marksB_length (f : Int) (n : Nat) : (marksB f n).length = n := by simp [marksB]
theorem marksB_get (f : Int) (n j : Nat) (h : j < n) : (marksB f n)[j]?.getD 0 = markB f j := by simp [marksB, h]
theorem marksB_succ (f : Int) (n : Nat) : marksB f (n + 1) = marksB f n ++ [markB f n] := by simp [marksB, List.range_succ]

/-- the book at block G: the values that it holds, and what they stand for. F: what lies untouched, with what it holds; K: what was written over or grown, R: with which mark -/
structure Led (Z : Nat → Prop) (W0 : World) (b0 G : Nat) (cnt tot : Int) (fv wv kv fr : Value) (F : List (Value × List Int)) (Ws : List Value) (K : List (Value × List Int)) (R : List Int) (w : World) : Prop where
  below : Below b0 W0 w
  z : Zs Z W0 G fv wv kv fr F K w
  gb : b0 ≤ G
  blk : Blk w G 33 #[.int .i64 cnt, .int .i64 tot, fv, wv, kv, fr, .bool false]
  f : OwnS w b0 fv (F.map (·.1))
  wn : OwnS w b0 wv Ws
  k : OwnS w b0 kv (K.map (·.1))
  from_ : OwnI w b0 fr R
  fd : ∀ x ∈ F, OwnB w b0 x.1 x.2
  wl : Ws.length = F.length
  wd : ∀ i, i < F.length → OwnB w b0 (Ws[i]?.getD undef) ((F[i]?.getD (undef, [])).2)
  kl : R.length = K.length
  kd : ∀ x ∈ K, OwnB w b0 x.1 x.2
  km : ∀ i, i < K.length → (K[i]?.getD (undef, [])).2 = marksB (R[i]?.getD 0) (K[i]?.getD (undef, [])).2.length
  tb : 0 ≤ tot ∧ tot ≤ 1099511627776
  cb : 0 ≤ cnt ∧ cnt ≤ 1048576
  nb : F.length ≤ 3 ∧ K.length ≤ 1048576
  rb : ∀ i, i < R.length → 0 ≤ R[i]?.getD 0 ∧ R[i]?.getD 0 ≤ 1048576
  lb : (∀ x ∈ F, x.2.length ≤ 1048576) ∧ (∀ x ∈ K, x.2.length ≤ 2097152)
  -- the three lists of lists are apart
  s1 : ∀ b, fv.ownBlock = some b → wv.ownBlock ≠ some b ∧ kv.ownBlock ≠ some b
  s2 : ∀ b, wv.ownBlock = some b → kv.ownBlock ≠ some b
  -- the marks' numbers are apart from all rows, the untouched rows from each other and from what is kept
  s3 : ∀ b, fr.ownBlock = some b → (∀ x ∈ F, x.1.ownBlock ≠ some b) ∧ (∀ x ∈ K, x.1.ownBlock ≠ some b)
  s4 : ∀ b, ∀ x ∈ F, x.1.ownBlock = some b → ∀ y ∈ K, y.1.ownBlock ≠ some b
  s5 : ∀ i j b, i < j → j < F.length → (F[i]?.getD (undef, [])).1.ownBlock = some b → (F[j]?.getD (undef, [])).1.ownBlock ≠ some b
  -- what is remembered lies outside of what is spared
  wz : ∀ u ∈ Ws, ∀ b, u.ownBlock = some b → ¬ Z b
end Go.Proofs.Ytkfcfoidaalnlaa.Bk
