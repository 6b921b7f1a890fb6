/- Warrants as bytes, plain mathematics: numbers, readers and writers that belong together. No program is named. -/
import Derived.WalkKit
namespace Go.Proofs.Ytbomihdnnidelaa.Dee
set_option linter.unusedVariables false
set_option linter.unusedSimpArgs false

/-- what a reader answers: a thing and the bytes behind it; or how many bytes were left at the fault, and its number -/
abbrev Rs (α : Type) := Except (Nat × Int) (α × List Int)
def bnd {α β : Type} (x : Rs α) (f : α → List Int → Rs β) : Rs β := match x with
  | .ok (a, t) => f a t
  | .error e => .error e
theorem bnd_ok {α β : Type} (a : α) (t : List Int) (f : α → List Int → Rs β) : bnd (.ok (a, t)) f = f a t := rfl
theorem bnd_err {α β : Type} (e : Nat × Int) (f : α → List Int → Rs β) : bnd (.error e) f = .error e := rfl

def IsB (x : Int) : Prop := 0 ≤ x ∧ x < 256
def Bytes (l : List Int) : Prop := ∀ x ∈ l, IsB x
theorem Bytes.tail {b : Int} {l : List Int} (h : Bytes (b :: l)) : Bytes l := fun x hx => h x (by simp [hx])
theorem Bytes.head {b : Int} {l : List Int} (h : Bytes (b :: l)) : 0 ≤ b ∧ b < 256 := h b (by simp)
theorem Bytes.app {l m : List Int} (h : Bytes l) (k : Bytes m) : Bytes (l ++ m) := fun x hx => by
  rcases List.mem_append.1 hx with h1 | h1
  · exact h x h1
  · exact k x h1
theorem Bytes.right {l m : List Int} (h : Bytes (l ++ m)) : Bytes m := fun x hx => h x (by simp [hx])
theorem Bytes.left {l m : List Int} (h : Bytes (l ++ m)) : Bytes l := fun x hx => h x (by simp [hx])
theorem Bytes.nil : Bytes [] := fun x hx => by simp at hx
theorem Bytes.cons {b : Int} {l : List Int} (h : 0 ≤ b ∧ b < 256) (k : Bytes l) : Bytes (b :: l) := fun x hx => by
  rcases List.mem_cons.1 hx with rfl | h1
  · exact h
  · exact k x h1

/-- A reader, a writer, and what may be written: what is written is read back, what is read is what is written, what is cut is refused at its end. -/
structure Codec {α : Type} (p : List Int → Rs α) (w : α → List Int) (good : α → Prop) : Prop where
  back : ∀ x rest, good x → p (w x ++ rest) = .ok (x, rest)
  forth : ∀ L x rest, Bytes L → p L = .ok (x, rest) → L = w x ++ rest ∧ good x
  cut : ∀ x u v, good x → w x = u ++ v → v ≠ [] → p u = .error (0, 110)
  bytes : ∀ x, good x → Bytes (w x)

/-- one behind the other, the second as the first one says -/
theorem Codec.seq {α β : Type} {p : List Int → Rs α} {w : α → List Int} {good : α → Prop} {q : α → List Int → Rs β} {v : α → β → List Int} {fine : α → β → Prop}
    (h : Codec p w good) (k : ∀ a, good a → Codec (q a) (v a) (fine a)) :
    Codec (fun L => bnd (p L) fun a t => bnd (q a t) fun b s => .ok ((a, b), s)) (fun x => w x.1 ++ v x.1 x.2) (fun x => good x.1 ∧ fine x.1 x.2) where
  back := fun ⟨a, b⟩ rest ⟨h1, h2⟩ => by
    show bnd (p ((w a ++ v a b) ++ rest)) _ = _
    rw [List.append_assoc, h.back a _ h1, bnd_ok, (k a h1).back b _ h2]; rfl
  forth := fun L ⟨a, b⟩ rest hB e => by
    cases e1 : p L with
    | error x => rw [e1] at e; cases e
    | ok x =>
      obtain ⟨a', t⟩ := x
      rw [e1, bnd_ok] at e
      obtain ⟨rfl, hg⟩ := h.forth L a' t hB e1
      cases e2 : q a' t with
      | error x => rw [e2] at e; cases e
      | ok x =>
        obtain ⟨b', s⟩ := x
        rw [e2, bnd_ok] at e
        injection e with e
        injection e with e3 e4
        injection e3 with e5 e6
        subst e4 e5 e6
        obtain ⟨rfl, hf⟩ := (k a' hg).forth t b' s hB.right e2
        exact ⟨(List.append_assoc _ _ _).symm, hg, hf⟩
  cut := fun ⟨a, b⟩ u v' ⟨h1, h2⟩ e hv => by
    dsimp only at e h1 h2 ⊢
    rcases Nat.lt_or_ge u.length (w a).length with hl | hl
    · have e1 : w a = u ++ (w a).drop u.length := by
        have := congrArg (List.take (w a).length) e
        rw [List.take_left, List.take_append, List.take_of_length_le (by omega)] at this
        rw [this]
        simp
      rw [h.cut a u _ h1 e1 (fun e2 => by have := congrArg List.length e2; simp at this; omega)]
      rfl
    · have e1 : u = w a ++ u.drop (w a).length := by
        have := congrArg (List.take (w a).length) e
        rw [List.take_left, List.take_append_of_le_length hl] at this
        conv => lhs; rw [← List.take_append_drop (w a).length u]
        rw [← this]
      have e2 : v a b = u.drop (w a).length ++ v' := by
        rw [e1, List.append_assoc] at e
        exact List.append_cancel_left e
      rw [e1, h.back a _ h1, bnd_ok, (k a h1).cut b _ v' h2 e2 hv]; rfl
  bytes := fun ⟨a, b⟩ ⟨h1, h2⟩ => (h.bytes a h1).app ((k a h1).bytes b h2)

/-- the same thing under another name -/
theorem Codec.map {α β : Type} {p : List Int → Rs α} {w : α → List Int} {good : α → Prop} {q : List Int → Rs β} {v : β → List Int} {fine : β → Prop} (f : α → β) (g : β → α)
    (h : Codec p w good) (hq : ∀ L, q L = bnd (p L) fun a t => .ok (f a, t)) (hv : ∀ b, fine b → v b = w (g b)) (hfg : ∀ b, fine b → f (g b) = b) (hgf : ∀ a, good a → g (f a) = a) (hg : ∀ b, fine b → good (g b)) (hf : ∀ a, good a → fine (f a)) :
    Codec q v fine where
  back := fun x rest hx => by rw [hq, hv x hx, h.back _ _ (hg x hx), bnd_ok, hfg x hx]
  forth := fun L x rest hB e => by
    rw [hq] at e
    cases e1 : p L with
    | error y => rw [e1] at e; cases e
    | ok y =>
      obtain ⟨a, t⟩ := y
      rw [e1, bnd_ok] at e
      injection e with e
      injection e with e2 e3
      subst e2 e3
      obtain ⟨e4, h2⟩ := h.forth L a t hB e1
      exact ⟨by rw [hv _ (hf a h2), hgf a h2]; exact e4, hf a h2⟩
  cut := fun x u v' hx e hne => by rw [hq, h.cut (g x) u v' (hg x hx) (by rw [← hv x hx]; exact e) hne]; rfl
  bytes := fun x hx => by rw [hv x hx]; exact h.bytes _ (hg x hx)

/-- nothing at all -/
theorem Codec.pure {α : Type} (a : α) : Codec (fun L => .ok (a, L)) (fun _ => []) (fun x => x = a) where
  back := fun x rest hx => by rw [hx]; rfl
  forth := fun L x rest _ e => by injection e with e; injection e with e1 e2; exact ⟨e2, e1.symm⟩
  cut := fun x u v _ e hv => by
    exact absurd (List.append_eq_nil_iff.1 (Eq.symm e)).2 hv
  bytes := fun _ _ => Bytes.nil

/-! bytes -/
def byteR (may : Int → Bool) (er : Int) : List Int → Rs Int
  | [] => .error (0, 110)
  | b :: t => if may b = true then .ok (b, t) else .error ((b :: t).length, er)
def goodB (may : Int → Bool) (x : Int) : Prop := may x = true ∧ 0 ≤ x ∧ x < 256
theorem cut_one {b : Int} {u v : List Int} (e : [b] = u ++ v) (hv : v ≠ []) : u = [] := by
  cases u with
  | nil => rfl
  | cons a t =>
    injection e with _ e
    cases t with
    | nil => exact absurd e.symm (by simpa using hv)
    | cons c s => cases e
theorem byte_codec (may : Int → Bool) (er : Int) : Codec (byteR may er) (fun b => [b]) (goodB may) where
  back := fun x rest ⟨h, _⟩ => by show (if may x = true then _ else _) = _; rw [if_pos h]; rfl
  forth := fun L x rest hB e => by
    cases L with
    | nil => cases e
    | cons b t =>
      change (if may b = true then _ else _) = _ at e
      by_cases h : may b = true
      · rw [if_pos h] at e
        injection e with e; injection e with e1 e2
        subst e1 e2
        exact ⟨rfl, h, hB.head⟩
      · rw [if_neg h] at e; cases e
  cut := fun x u v _ e hv => by rw [cut_one e hv]; rfl
  bytes := fun x ⟨_, h⟩ => Bytes.cons h Bytes.nil

/-! numbers -/
def num (n : Nat) : List Int := if n < 128 then [(n : Int)] else ((n % 128 + 128 : Nat) : Int) :: num (n / 128)
termination_by n
theorem num_low {n : Nat} (h : n < 128) : num n = [(n : Int)] := by rw [num, if_pos h]
theorem num_high {n : Nat} (h : ¬ n < 128) : num n = ((n % 128 + 128 : Nat) : Int) :: num (n / 128) := by rw [num, if_neg h]
theorem num_ne (n : Nat) : num n ≠ [] := by
  rw [num]; split
  · intro h; cases h
  · intro h; cases h
theorem num_bytes (n : Nat) : Bytes (num n) := by
  induction n using Nat.strongRecOn with
  | ind n ih =>
    by_cases h : n < 128
    · rw [num_low h]; exact Bytes.cons (by omega) Bytes.nil
    · rw [num_high h]; exact Bytes.cons (by omega) (ih _ (by omega))
/-- in how many bytes a number is written -/
theorem num_len (f : Nat) : ∀ n : Nat, n < 128 ^ (f + 1) → (num n).length ≤ f + 1 := by
  induction f with
  | zero => intro n h; rw [num_low (by simpa using h)]; simp
  | succ f ih =>
    intro n h
    by_cases hl : n < 128
    · rw [num_low hl]; simp
    · rw [num_high hl, List.length_cons]
      have := ih (n / 128) (by rw [Nat.pow_succ] at h; exact Nat.div_lt_of_lt_mul (by rw [Nat.mul_comm]; exact h))
      omega

/-- groups are read: f + 1 more may come, the first ones make a, fr bytes were left at the first one -/
def grp (fr : Nat) : Nat → Int → List Int → Rs Int
  | 0, _, _ => .error (fr, 110)
  | _ + 1, _, [] => .error (0, 110)
  | f + 1, a, b :: t => if b < 128 then (if 0 < b ∨ f = 8 then .ok (a + b * 128 ^ (8 - f), t) else .error (fr, 110)) else grp fr f (a + (b - 128) * 128 ^ (8 - f)) t
theorem grp_back (fr : Nat) (f : Nat) : ∀ (n : Nat) (a : Int) (rest : List Int), f ≤ 8 → n < 128 ^ (f + 1) → (f = 8 ∨ 0 < n) → grp fr (f + 1) a (num n ++ rest) = .ok (a + n * 128 ^ (8 - f), rest) := by
  induction f with
  | zero =>
    intro n a rest _ h h0
    rw [num_low (by simpa using h), List.cons_append, List.nil_append]
    show (if (n : Int) < 128 then _ else _) = _
    rw [if_pos (by simp at h; omega), if_pos (Or.inl (by omega))]
  | succ f ih =>
    intro n a rest hf h h0
    by_cases hl : n < 128
    · rw [num_low hl, List.cons_append, List.nil_append]
      show (if (n : Int) < 128 then _ else _) = _
      rw [if_pos (by omega), if_pos (by omega)]
    · rw [num_high hl, List.cons_append]
      show (if ((n % 128 + 128 : Nat) : Int) < 128 then _ else _) = _
      rw [if_neg (by omega), ih (n / 128) _ rest (by omega) (by rw [Nat.pow_succ] at h; exact Nat.div_lt_of_lt_mul (by rw [Nat.mul_comm]; exact h)) (Or.inr (by omega))]
      congr 2
      have e : (128 : Int) ^ (8 - f) = 128 * 128 ^ (8 - (f + 1)) := by
        rw [show 8 - f = (8 - (f + 1)) + 1 by omega, Int.pow_succ, Int.mul_comm]
      rw [e, show (((n % 128 + 128 : Nat) : Int) - 128) = ((n % 128 : Nat) : Int) by omega]
      generalize (128 : Int) ^ (8 - (f + 1)) = z
      have : (n : Int) = ((n % 128 : Nat) : Int) + 128 * ((n / 128 : Nat) : Int) := by omega
      conv => rhs; rw [this]
      rw [Int.add_mul, Int.add_assoc, Int.mul_comm 128 ((n / 128 : Nat) : Int), Int.mul_assoc]
theorem grp_forth (fr : Nat) (f : Nat) : ∀ (L : List Int) (a x : Int) (rest : List Int), f ≤ 8 → Bytes L → grp fr (f + 1) a L = .ok (x, rest) → ∃ n : Nat, x = a + n * 128 ^ (8 - f) ∧ L = num n ++ rest ∧ n < 128 ^ (f + 1) ∧ (f = 8 ∨ 0 < n) := by
  induction f with
  | zero =>
    intro L a x rest _ hB e
    cases L with
    | nil => cases e
    | cons b t =>
      have hb := hB.head
      unfold grp at e
      by_cases h : b < 128
      · rw [if_pos h] at e
        by_cases h0 : 0 < b ∨ 0 = 8
        · rw [if_pos h0] at e
          injection e with e; injection e with e1 e2
          refine ⟨b.toNat, ?_, ?_, by simp; omega, by omega⟩
          · rw [← e1]; congr 2; omega
          · rw [num_low (by omega), ← e2]; show b :: t = (b.toNat : Int) :: t; congr 1; omega
        · rw [if_neg h0] at e; cases e
      · rw [if_neg h] at e; cases e
  | succ f ih =>
    intro L a x rest hf hB e
    cases L with
    | nil => cases e
    | cons b t =>
      have hb := hB.head
      unfold grp at e
      by_cases h : b < 128
      · rw [if_pos h] at e
        by_cases h0 : 0 < b ∨ f + 1 = 8
        · rw [if_pos h0] at e
          injection e with e; injection e with e1 e2
          refine ⟨b.toNat, ?_, ?_, ?_, by omega⟩
          · rw [← e1]; congr 2; omega
          · rw [num_low (by omega), ← e2]; show b :: t = (b.toNat : Int) :: t; congr 1; omega
          · have : (128 : Nat) ^ 1 ≤ 128 ^ (f + 1 + 1) := Nat.pow_le_pow_right (by decide) (by omega)
            simp at this; omega
        · rw [if_neg h0] at e; cases e
      · rw [if_neg h] at e
        obtain ⟨n, e1, e2, e3, e4⟩ := ih t _ x rest (by omega) hB.tail e
        have hn0 : 0 < n := by omega
        refine ⟨(b - 128).toNat + 128 * n, ?_, ?_, ?_, by omega⟩
        · rw [e1]
          have ee : (128 : Int) ^ (8 - f) = 128 * 128 ^ (8 - (f + 1)) := by
            rw [show 8 - f = (8 - (f + 1)) + 1 by omega, Int.pow_succ, Int.mul_comm]
          rw [ee]
          generalize (128 : Int) ^ (8 - (f + 1)) = z
          rw [show (((b - 128).toNat + 128 * n : Nat) : Int) = (b - 128) + (n : Int) * 128 by omega, Int.add_mul, Int.mul_assoc, Int.add_assoc]
        · rw [num_high (by omega), show ((b - 128).toNat + 128 * n) / 128 = n by omega, List.cons_append, ← e2]
          congr 1; omega
        · rw [Nat.pow_succ]; omega
theorem grp_cut (fr : Nat) (f : Nat) : ∀ (n : Nat) (a : Int) (u v : List Int), f ≤ 8 → n < 128 ^ (f + 1) → num n = u ++ v → v ≠ [] → grp fr (f + 1) a u = .error (0, 110) := by
  induction f with
  | zero =>
    intro n a u v _ h e hv
    rw [num_low (by simpa using h)] at e
    rw [cut_one e hv]; rfl
  | succ f ih =>
    intro n a u v hf h e hv
    by_cases hl : n < 128
    · rw [num_low hl] at e
      rw [cut_one e hv]; rfl
    · rw [num_high hl] at e
      cases u with
      | nil => rfl
      | cons b t =>
        rw [List.cons_append] at e
        injection e with e1 e2
        show (if b < 128 then _ else _) = _
        rw [if_neg (by omega)]
        exact ih (n / 128) _ t v (by omega) (by rw [Nat.pow_succ] at h; exact Nat.div_lt_of_lt_mul (by rw [Nat.mul_comm]; exact h)) e2 hv

def groupsR (L : List Int) : Rs Int := grp L.length 9 0 L
def numR (may : Int → Bool) (er : Int) (L : List Int) : Rs Int := bnd (groupsR L) fun n t => if may n = true then .ok (n, t) else .error (L.length, er)
/-- a number that may be signed -/
def unz (n : Int) : Int := if n % 2 = 0 then n / 2 else -(n / 2) - 1
def zig (n : Int) : Nat := if n < 0 then (-2 * n - 1).toNat else (2 * n).toNat
def sgnR (may : Int → Bool) (er : Int) (L : List Int) : Rs Int := bnd (groupsR L) fun n t => if may (unz n) = true then .ok (unz n, t) else .error (L.length, er)
theorem unz_zig (n : Int) : unz (zig n) = n := by unfold unz zig; split <;> split <;> omega
theorem zig_unz (n : Int) (h : 0 ≤ n) : (zig (unz n) : Int) = n := by unfold unz zig; split <;> split <;> omega
def goodN (may : Int → Bool) (x : Int) : Prop := may x = true ∧ 0 ≤ x ∧ x < 9223372036854775808
def goodS (may : Int → Bool) (x : Int) : Prop := may x = true ∧ -4611686018427387904 ≤ x ∧ x < 4611686018427387904
theorem p9 : (128 : Nat) ^ (8 + 1) = 9223372036854775808 := by decide
theorem groups_back (n : Nat) (rest : List Int) (h : n < 9223372036854775808) : groupsR (num n ++ rest) = .ok ((n : Int), rest) := by
  unfold groupsR
  rw [grp_back _ 8 n 0 rest (by decide) (by rw [p9]; exact h) (Or.inl rfl)]
  simp
theorem groups_forth (L : List Int) (x : Int) (rest : List Int) (hB : Bytes L) (e : groupsR L = .ok (x, rest)) : ∃ n : Nat, x = n ∧ L = num n ++ rest ∧ n < 9223372036854775808 := by
  obtain ⟨n, e1, e2, e3, _⟩ := grp_forth _ 8 L 0 x rest (by decide) hB e
  exact ⟨n, by rw [e1]; simp, e2, by rw [p9] at e3; exact e3⟩
theorem groups_cut (n : Nat) (u v : List Int) (h : n < 9223372036854775808) (e : num n = u ++ v) (hv : v ≠ []) : groupsR u = .error (0, 110) :=
  grp_cut _ 8 n 0 u v (by decide) (by rw [p9]; exact h) e hv
theorem num_codec (may : Int → Bool) (er : Int) : Codec (numR may er) (fun x => num x.toNat) (goodN may) where
  back := fun x rest ⟨h, h0, h1⟩ => by
    unfold numR
    rw [groups_back _ _ (by omega), bnd_ok]
    rw [show ((x.toNat : Nat) : Int) = x by omega, if_pos h]
  forth := fun L x rest hB e => by
    unfold numR at e
    cases e1 : groupsR L with
    | error y => rw [e1] at e; cases e
    | ok y =>
      obtain ⟨n, t⟩ := y
      rw [e1, bnd_ok] at e
      by_cases h : may n = true
      · rw [if_pos h] at e
        injection e with e; injection e with e2 e3
        subst e2 e3
        obtain ⟨m, rfl, e4, e5⟩ := groups_forth L n t hB e1
        exact ⟨e4, h, by omega, by omega⟩
      · rw [if_neg h] at e; cases e
  cut := fun x u v ⟨h, h0, h1⟩ e hv => by unfold numR; rw [groups_cut _ u v (by omega) e hv]; rfl
  bytes := fun x _ => num_bytes _
theorem sgn_codec (may : Int → Bool) (er : Int) : Codec (sgnR may er) (fun x => num (zig x)) (goodS may) where
  back := fun x rest ⟨h, h0, h1⟩ => by
    unfold sgnR
    rw [groups_back _ _ (by unfold zig; split <;> omega), bnd_ok, unz_zig, if_pos h]
  forth := fun L x rest hB e => by
    unfold sgnR at e
    cases e1 : groupsR L with
    | error y => rw [e1] at e; cases e
    | ok y =>
      obtain ⟨n, t⟩ := y
      rw [e1, bnd_ok] at e
      obtain ⟨m, rfl, e4, e5⟩ := groups_forth L n t hB e1
      by_cases h : may (unz m) = true
      · rw [if_pos h] at e
        injection e with e; injection e with e2 e3
        subst e2 e3
        have hz := zig_unz m (by omega)
        refine ⟨by rw [show zig (unz m) = m by omega]; exact e4, h, ?_, ?_⟩ <;> (unfold unz; split <;> omega)
      · rw [if_neg h] at e; cases e
  cut := fun x u v ⟨h, h0, h1⟩ e hv => by unfold sgnR; rw [groups_cut _ u v (by unfold zig; split <;> omega) e hv]; rfl
  bytes := fun x _ => num_bytes _
/-! n things, one behind the other; each as those ahead of it say -/
def manyR {α : Type} (p : List α → List Int → Rs α) : Nat → List α → List Int → Rs (List α)
  | 0, l, L => .ok (l, L)
  | n + 1, l, L => bnd (p l L) fun a t => manyR p n (l ++ [a]) t
theorem many_codec {α : Type} {p : List α → List Int → Rs α} {w : α → List Int} {good : List α → α → Prop} (h : ∀ l, Codec (p l) w (good l)) (n : Nat) : ∀ l : List α,
    Codec (manyR p n l) (fun m => (m.drop l.length).flatMap w) (fun m => m.length = l.length + n ∧ m.take l.length = l ∧ ∀ k a, l.length ≤ k → m[k]? = some a → good (m.take k) a) := by
  induction n with
  | zero =>
    intro l
    have e := Codec.pure l
    exact {
      back := fun x rest ⟨h1, h2, h3⟩ => by
        have hx : x = l := by rw [← h2, List.take_of_length_le (by omega)]
        subst hx
        simp [manyR]
      forth := fun L x rest hB e1 => by
        obtain ⟨e2, e3⟩ := e.forth L x rest hB e1
        subst e3
        refine ⟨by simpa using e2, by simp, by simp, fun k a hk hka => ?_⟩
        rw [List.getElem?_eq_none hk] at hka; cases hka
      cut := fun x u v ⟨h1, h2, h3⟩ e1 hv => by
        rw [List.drop_of_length_le (by omega)] at e1
        simp at e1
        exact absurd e1.2 hv
      bytes := fun x ⟨h1, h2, h3⟩ => by rw [List.drop_of_length_le (by omega)]; exact Bytes.nil }
  | succ n ih =>
    intro l
    have key : ∀ m : List α, (m.length = l.length + (n + 1) ∧ m.take l.length = l ∧ ∀ k a, l.length ≤ k → m[k]? = some a → good (m.take k) a) →
        ∃ a, m[l.length]? = some a ∧ good l a ∧ m.drop l.length = a :: m.drop (l.length + 1) ∧ (m.length = (l ++ [a]).length + n ∧ m.take (l ++ [a]).length = l ++ [a] ∧ ∀ k b, (l ++ [a]).length ≤ k → m[k]? = some b → good (m.take k) b) := by
      rintro m ⟨h1, h2, h3⟩
      obtain ⟨a, ha⟩ : ∃ a, m[l.length]? = some a := ⟨_, List.getElem?_eq_getElem (by omega)⟩
      have hg := h3 l.length a (Nat.le_refl _) ha
      rw [h2] at hg
      have hlt : l.length < m.length := by omega
      have ha' : m[l.length] = a := by rw [List.getElem?_eq_getElem hlt] at ha; injection ha
      refine ⟨a, ha, hg, ?_, by simp; omega, ?_, fun k b hk hb => h3 k b (by simp at hk; omega) hb⟩
      · rw [List.drop_eq_getElem_cons hlt, ha']
      · rw [show (l ++ [a]).length = l.length + 1 by simp, List.take_succ_eq_append_getElem hlt, h2, ha']
    exact {
      back := fun m rest hm => by
        obtain ⟨a, ha, hg, hd, hm'⟩ := key m hm
        show manyR p (n + 1) l ((m.drop l.length).flatMap w ++ rest) = _
        rw [hd, List.flatMap_cons, List.append_assoc]
        show bnd (p l _) _ = _
        rw [(h l).back a _ hg, bnd_ok]
        have := (ih (l ++ [a])).back m rest hm'
        rw [show (l ++ [a]).length = l.length + 1 by simp] at this
        exact this
      forth := fun L m rest hB e => by
        change bnd (p l L) _ = _ at e
        cases e1 : p l L with
        | error y => rw [e1] at e; cases e
        | ok y =>
          obtain ⟨a, t⟩ := y
          rw [e1, bnd_ok] at e
          obtain ⟨rfl, hg⟩ := (h l).forth L a t hB e1
          obtain ⟨e2, h1, h2, h3⟩ := (ih (l ++ [a])).forth t m rest hB.right e
          have hl1 : (l ++ [a]).length = l.length + 1 := by simp
          have hlt : l.length < m.length := by omega
          have ht : m.take l.length = l := by
            have := congrArg (List.take l.length) h2
            rw [List.take_take, show min l.length (l ++ [a]).length = l.length by omega, List.take_left] at this
            exact this
          have ha : m[l.length]? = some a := by
            have := congrArg (fun z => z[l.length]?) h2
            simpa [hl1] using this
          have ha' : m[l.length] = a := by rw [List.getElem?_eq_getElem hlt] at ha; injection ha
          refine ⟨?_, by omega, ht, fun k b hk hb => ?_⟩
          · show w a ++ t = (m.drop l.length).flatMap w ++ rest
            rw [List.drop_eq_getElem_cons hlt, ha', List.flatMap_cons, List.append_assoc, ← hl1, ← e2]
          · rcases Nat.lt_or_ge l.length k with h4 | h4
            · exact h3 k b (by omega) hb
            · obtain rfl : k = l.length := by omega
              rw [ht]
              rw [ha] at hb; injection hb with hb; subst hb
              exact hg
      cut := fun m u v hm e hv => by
        obtain ⟨a, ha, hg, hd, hm'⟩ := key m hm
        have ih' := ih (l ++ [a])
        have hw : (m.drop l.length).flatMap w = w a ++ (m.drop (l ++ [a]).length).flatMap w := by
          rw [hd, List.flatMap_cons, show (l ++ [a]).length = l.length + 1 by simp]
        have e : (m.drop l.length).flatMap w = u ++ v := e
        rw [hw] at e
        rcases Nat.lt_or_ge u.length (w a).length with hl | hl
        · have e1 : w a = u ++ (w a).drop u.length := by
            have := congrArg (List.take (w a).length) e
            rw [List.take_left, List.take_append, List.take_of_length_le (by omega)] at this
            rw [this]
            simp
          show bnd (p l u) _ = _
          rw [(h l).cut a u _ hg e1 (fun e2 => by have := congrArg List.length e2; simp at this; omega)]
          rfl
        · have e1 : u = w a ++ u.drop (w a).length := by
            have := congrArg (List.take (w a).length) e
            rw [List.take_left, List.take_append_of_le_length hl] at this
            conv => lhs; rw [← List.take_append_drop (w a).length u]
            rw [← this]
          have e2 : (m.drop (l ++ [a]).length).flatMap w = u.drop (w a).length ++ v := by
            rw [e1, List.append_assoc] at e
            exact List.append_cancel_left e
          rw [e1]
          show bnd (p l _) _ = _
          rw [(h l).back a _ hg, bnd_ok]
          exact ih'.cut m _ v hm' e2 hv
      bytes := fun m hm => by
        obtain ⟨a, ha, hg, hd, hm'⟩ := key m hm
        show Bytes ((m.drop l.length).flatMap w)
        rw [hd, List.flatMap_cons]
        have := (ih (l ++ [a])).bytes m hm'
        rw [show (l ++ [a]).length = l.length + 1 by simp] at this
        exact ((h l).bytes a hg).app this }
end Go.Proofs.Ytbomihdnnidelaa.Dee
