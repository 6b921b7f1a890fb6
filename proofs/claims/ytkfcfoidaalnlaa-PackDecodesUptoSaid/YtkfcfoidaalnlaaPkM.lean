/- Containers as bytes, plain mathematics: numbers, sections, the sum; what is written is read back, what is read is what is written. No program is named. -/
import Derived.WalkKit
namespace Go.Proofs.Ytkfcfoidaalnlaa.Pak
set_option linter.unusedVariables false
set_option linter.unusedSimpArgs false

def IsB (x : Int) : Prop := 0 ≤ x ∧ x < 256
def Bytes (l : List Int) : Prop := ∀ x ∈ l, IsB x
theorem Bytes.tail {b : Int} {l : List Int} (h : Bytes (b :: l)) : Bytes l := fun x hx => h x (by simp [hx])
theorem Bytes.head {b : Int} {l : List Int} (h : Bytes (b :: l)) : 0 ≤ b ∧ b < 256 := h b (by simp)
theorem Bytes.app {l m : List Int} (h : Bytes l) (k : Bytes m) : Bytes (l ++ m) := fun x hx => by
  rcases List.mem_append.1 hx with h1 | h1
  · exact h x h1
  · exact k x h1
theorem Bytes.right {l m : List Int} (h : Bytes (l ++ m)) : Bytes m := fun x hx => h x (by simp [hx])
theorem Bytes.left {l m : List Int} (h : Bytes (l ++ m)) : Bytes l := fun x hx => h x (by simp [hx])
theorem Bytes.nil : Bytes [] := fun x hx => by simp at hx
theorem Bytes.cons {b : Int} {l : List Int} (h : 0 ≤ b ∧ b < 256) (k : Bytes l) : Bytes (b :: l) := fun x hx => by
  rcases List.mem_cons.1 hx with rfl | h1
  · exact h
  · exact k x h1
theorem Bytes.take {l : List Int} (h : Bytes l) (n : Nat) : Bytes (l.take n) := fun x hx => h x (List.mem_of_mem_take hx)
theorem Bytes.drop {l : List Int} (h : Bytes l) (n : Nat) : Bytes (l.drop n) := fun x hx => h x (List.mem_of_mem_drop hx)

/-! numbers, the lowest byte first -/
def le (n : Int) : Nat → List Int
  | 0 => []
  | k + 1 => n % 256 :: le (n / 256) k
def num : List Int → Int
  | [] => 0
  | b :: t => b + 256 * num t
theorem le_len : ∀ (k : Nat) (n : Int), (le n k).length = k
  | 0, _ => rfl
  | k + 1, n => by show (le (n / 256) k).length + 1 = _; rw [le_len k]
theorem le_bytes : ∀ (k : Nat) (n : Int), Bytes (le n k)
  | 0, _ => Bytes.nil
  | k + 1, n => Bytes.cons (by omega) (le_bytes k _)
theorem num_le : ∀ (k : Nat) (n : Int), 0 ≤ n → n < 256 ^ k → num (le n k) = n
  | 0, n, h, h2 => by simp at h2; show (0 : Int) = n; omega
  | k + 1, n, h, h2 => by
    show n % 256 + 256 * num (le (n / 256) k) = n
    rw [num_le k (n / 256) (by omega) (by rw [Int.pow_succ] at h2; exact Int.ediv_lt_of_lt_mul (by decide) h2)]
    omega
theorem num_nn : ∀ (L : List Int), Bytes L → 0 ≤ num L
  | [], _ => Int.le_refl _
  | b :: t, h => by
    have h1 := h.head
    have h2 := num_nn t h.tail
    show 0 ≤ b + 256 * num t
    omega
theorem le_num : ∀ (L : List Int), Bytes L → le (num L) L.length = L
  | [], _ => rfl
  | b :: t, h => by
    have h1 := h.head
    have h2 := le_num t h.tail
    show (b + 256 * num t) % 256 :: le ((b + 256 * num t) / 256) t.length = _
    rw [show (b + 256 * num t) % 256 = b by omega, show (b + 256 * num t) / 256 = num t by omega, h2]
theorem num_lt : ∀ (L : List Int), Bytes L → num L < 256 ^ L.length
  | [], _ => by show (0 : Int) < 256 ^ 0; decide
  | b :: t, h => by
    have h1 := h.head
    have h2 := num_lt t h.tail
    show b + 256 * num t < 256 ^ (t.length + 1)
    rw [Int.pow_succ]
    generalize (256 : Int) ^ t.length = z at *
    omega
theorem p256_2 : (256 : Int) ^ 2 = 65536 := by decide
theorem p256_3 : (256 : Int) ^ 3 = 16777216 := by decide
theorem p256_4 : (256 : Int) ^ 4 = 4294967296 := by decide

/-! the sum -/
def stepS (s : Nat) (x : Int) : Nat := (s ^^^ x.toNat) * 16777619 % 4294967296
def sumF (s : Nat) (L : List Int) : Nat := L.foldl stepS s
def sumN (L : List Int) : Nat := sumF 2166136261 L
theorem stepS_lt (s : Nat) (x : Int) : stepS s x < 4294967296 := Nat.mod_lt _ (by decide)
theorem sumF_lt : ∀ (L : List Int) (s : Nat), s < 4294967296 → sumF s L < 4294967296
  | [], s, h => h
  | x :: t, s, _ => sumF_lt t _ (stepS_lt s x)
theorem sumN_lt (L : List Int) : sumN L < 4294967296 := sumF_lt L _ (by decide)
theorem mul_back (x : Nat) (h : x < 4294967296) : x * 16777619 % 4294967296 * 899433627 % 4294967296 = x := by
  rw [Nat.mul_mod, Nat.mod_mod, ← Nat.mul_mod, Nat.mul_assoc, show 16777619 * 899433627 = 1 + 4294967296 * 3513497 by decide, Nat.mul_add, Nat.mul_one, ← Nat.mul_assoc, Nat.mul_right_comm, Nat.add_mul_mod_self_right]
  exact Nat.mod_eq_of_lt h
theorem mul_inj (x y : Nat) (hx : x < 4294967296) (hy : y < 4294967296) (h : x * 16777619 % 4294967296 = y * 16777619 % 4294967296) : x = y := by
  rw [← mul_back x hx, ← mul_back y hy, h]
theorem xor_lt32 (a b : Nat) (ha : a < 4294967296) (hb : b < 4294967296) : a ^^^ b < 4294967296 := Nat.xor_lt_two_pow (n := 32) ha hb
theorem stepS_inj_s (s t : Nat) (x : Int) (hs : s < 4294967296) (ht : t < 4294967296) (hx : IsB x) (h : stepS s x = stepS t x) : s = t := by
  have hb : x.toNat < 4294967296 := by have := hx.2; omega
  have := mul_inj _ _ (xor_lt32 s _ hs hb) (xor_lt32 t _ ht hb) h
  have h2 := congrArg (· ^^^ x.toNat) this
  simpa [Nat.xor_assoc] using h2
theorem stepS_inj_x (s : Nat) (x y : Int) (hs : s < 4294967296) (hx : IsB x) (hy : IsB y) (h : stepS s x = stepS s y) : x = y := by
  have hb : x.toNat < 4294967296 := by have := hx.2; omega
  have hc : y.toNat < 4294967296 := by have := hy.2; omega
  have := mul_inj _ _ (xor_lt32 s _ hs hb) (xor_lt32 s _ hs hc) h
  have h2 := congrArg (s ^^^ ·) this
  have h3 : x.toNat = y.toNat := by simpa [← Nat.xor_assoc] using h2
  have := hx.1
  have := hy.1
  omega
theorem sumF_inj : ∀ (L : List Int) (s t : Nat), Bytes L → s < 4294967296 → t < 4294967296 → sumF s L = sumF t L → s = t
  | [], s, t, _, _, _, h => h
  | x :: l, s, t, hB, hs, ht, h => stepS_inj_s s t x hs ht hB.head (sumF_inj l _ _ hB.tail (stepS_lt _ _) (stepS_lt _ _) h)
/-- one byte turned turns the sum -/
theorem sumF_set : ∀ (L : List Int) (s i : Nat) (y : Int), Bytes L → s < 4294967296 → i < L.length → IsB y → L[i]? ≠ some y → sumF s (L.set i y) ≠ sumF s L
  | [], s, i, y, _, _, hi, _, _ => absurd hi (by simp)
  | x :: l, s, 0, y, hB, hs, _, hy, hne => fun h => by
    have h2 : sumF (stepS s y) l = sumF (stepS s x) l := h
    have h3 := stepS_inj_x s y x hs hy hB.head (sumF_inj l _ _ hB.tail (stepS_lt _ _) (stepS_lt _ _) h2)
    exact hne (by rw [h3]; rfl)
  | x :: l, s, i + 1, y, hB, hs, hi, hy, hne => by
    show sumF (stepS s x) (l.set i y) ≠ sumF (stepS s x) l
    exact sumF_set l _ i y hB.tail (stepS_lt _ _) (by simpa using hi) hy (by simpa using hne)

/-! a container -/
structure Pk where
  lo : Int
  hi : Int
  data : List Int
  tabs : List (Int × Int)
  code : List Int
def Pk.none : Pk := ⟨0, 0, [], [], []⟩
def mark : List Int := [87, 80, 75, 49]
def tabB (t : List (Int × Int)) : List Int := t.flatMap fun x => [x.1 % 256, x.2 % 256]
def sec (k : Int) (c : List Int) : List Int := if c = [] then [] else k :: (le c.length 3 ++ c)
def bodyW (k : Pk) : List Int := mark ++ (sec 1 (le k.lo 2 ++ le k.hi 2) ++ (sec 2 (tabB k.tabs) ++ (sec 3 k.data ++ sec 4 k.code)))
def encW (k : Pk) : List Int := bodyW k ++ le (sumN (bodyW k)) 4
def okT (x : Int × Int) : Bool := decide (1 ≤ x.1) && decide (x.1 ≤ 64) && (decide (1 ≤ x.2) && decide (x.2 ≤ 64))
def sizesE (lo hi : Int) (tabs : List (Int × Int)) (nd : Nat) : Int :=
  if lo < 0 ∨ hi < lo ∨ 65535 < hi then 121 else if 8 < tabs.length ∨ tabs.all okT = false then 122 else if 4096 < nd then 123 else 0
def encE (k : Pk) : Int := if sizesE k.lo k.hi k.tabs k.data.length ≠ 0 then sizesE k.lo k.hi k.tabs k.data.length else if 131072 < (encW k).length then 2 else 0

/-! reading: what a fault says is how many bytes were left ahead of the sum -/
def follows (last kind : Int) : Bool := if last = 0 then decide (kind = 1) else decide (last < kind) && decide (kind ≤ 4)
def uncounted (kind n : Int) : Int :=
  if n = 0 ∨ (kind = 1 ∧ n ≠ 4) ∨ (kind = 2 ∧ n % 2 ≠ 0) then 120 else if kind = 2 ∧ 16 < n then 122 else if kind = 3 ∧ 4096 < n then 123 else 0
abbrev Fl := Nat × Int
def secC (last kind : Int) (t : List Int) : Except Fl ((Int × List Int) × List Int) :=
    if follows last kind = false then .error (t.length + 1, 120) else
    if t.length < 3 then .error (0, 120) else
    if uncounted kind (num (t.take 3)) ≠ 0 then .error (t.length, uncounted kind (num (t.take 3))) else
    if (t.drop 3).length < (num (t.take 3)).toNat then .error (0, 120) else
    .ok ((kind, (t.drop 3).take (num (t.take 3)).toNat), (t.drop 3).drop (num (t.take 3)).toNat)
def secR (last : Int) : List Int → Except Fl ((Int × List Int) × List Int)
  | [] => .error (0, 120)
  | kind :: t => secC last kind t
def tabsR (acc : List (Int × Int)) (left : Nat) : List Int → Except Fl (List (Int × Int))
  | a :: b :: t => if (decide (1 ≤ a) && decide (a ≤ 64)) = false then .error (left, 122) else if (decide (1 ≤ b) && decide (b ≤ 64)) = false then .error (left - 1, 122) else tabsR (acc ++ [(a, b)]) (left - 2) t
  | _ => .ok acc
def into (k : Pk) (kind : Int) (c : List Int) (left : Nat) : Except Fl Pk :=
  if kind = 1 then (if num (c.drop 2) < num (c.take 2) then .error (left, 121) else .ok { k with lo := num (c.take 2), hi := num (c.drop 2) })
  else if kind = 2 then (match tabsR [] left c with
    | .ok t => .ok { k with tabs := t }
    | .error e => .error e)
  else if kind = 3 then .ok { k with data := c }
  else .ok { k with code := c }
def packR (last : Int) (k : Pk) (r : List Int) : Except Fl Pk :=
  if r = [] then (if last = 0 then .error (0, 120) else .ok k) else
  match secR last r with
  | .error e => .error e
  | .ok ((kind, c), t) => match into k kind c (c.length + t.length) with
    | .error e => .error e
    | .ok k' => if t.length < r.length then packR kind k' t else .error (0, 0)
termination_by r.length
def decP (L : List Int) : Except Fl Pk :=
  if 131072 < L.length then .error (0, 2) else if L.length < 8 then .error (L.length, 120) else if L.take 4 ≠ mark then .error (0, 120) else
  if num (L.drop (L.length - 4)) ≠ sumN (L.take (L.length - 4)) then .error (L.length - 4, 124) else
  match packR 0 Pk.none ((L.take (L.length - 4)).drop 4) with
  | .ok k => .ok k
  | .error (lf, er) => .error (L.length - 4 - lf, er)

/-! a section, written and read -/
theorem sec_nil (k : Int) : sec k [] = [] := rfl
theorem sec_ne {k : Int} {c : List Int} (h : c ≠ []) : sec k c = k :: (le c.length 3 ++ c) := by unfold sec; rw [if_neg h]
theorem sec_bytes {k : Int} {c : List Int} (hk : IsB k) (hc : Bytes c) : Bytes (sec k c) := by
  unfold sec
  split
  · exact Bytes.nil
  · exact Bytes.cons hk ((le_bytes _ _).app hc)
theorem secR_ok {last kind : Int} {c t : List Int} (hc : c ≠ []) (hf : follows last kind = true) (hu : uncounted kind c.length = 0) (hl : c.length < 16777216) : secR last (sec kind c ++ t) = .ok ((kind, c), t) := by
  rw [sec_ne hc, List.cons_append, List.append_assoc]
  have hlen := le_len 3 c.length
  have e1 : (le c.length 3 ++ (c ++ t)).take 3 = le c.length 3 := by rw [List.take_append_of_le_length (by omega), List.take_of_length_le (by omega)]
  have e2 : (le c.length 3 ++ (c ++ t)).drop 3 = c ++ t := by rw [List.drop_append_of_le_length (by omega), List.drop_of_length_le (by omega), List.nil_append]
  have e3 : num (le c.length 3) = c.length := num_le 3 _ (by omega) (by rw [p256_3]; omega)
  show secC _ _ _ = _
  unfold secC
  rw [if_neg (by rw [hf]; simp), if_neg (by simp [hlen]), e1, e2, e3, if_neg (by rw [hu]; simp), if_neg (by simp)]
  simp
theorem secR_good {last kind : Int} {r c t : List Int} (hB : Bytes r) (h : secR last r = .ok ((kind, c), t)) : r = sec kind c ++ t ∧ c ≠ [] ∧ follows last kind = true ∧ uncounted kind c.length = 0 ∧ Bytes c ∧ Bytes t ∧ t.length < r.length := by
  cases r with
  | nil => cases h
  | cons b s =>
    change secC _ _ _ = _ at h
    unfold secC at h
    by_cases h1 : follows last b = false
    · rw [if_pos h1] at h; cases h
    rw [if_neg h1] at h
    by_cases h2 : s.length < 3
    · rw [if_pos h2] at h; cases h
    rw [if_neg h2] at h
    by_cases h3 : uncounted b (num (s.take 3)) ≠ 0
    · rw [if_pos h3] at h; cases h
    rw [if_neg h3] at h
    by_cases h4 : (s.drop 3).length < (num (s.take 3)).toNat
    · rw [if_pos h4] at h; cases h
    rw [if_neg h4] at h
    injection h with h
    injection h with h5 h6
    injection h5 with h5 h7
    have hs := hB.tail
    have nn := num_nn _ (hs.take 3)
    have h3' : uncounted b (num (s.take 3)) = 0 := Classical.byContradiction h3
    have hcl : c.length = (num (s.take 3)).toNat := by rw [← h7, List.length_take]; omega
    have hcl' : (c.length : Int) = num (s.take 3) := by omega
    have hpos : c ≠ [] := fun e => by
      rw [e] at hcl'
      have : num (s.take 3) = 0 := by simpa using hcl'.symm
      rw [this] at h3'
      unfold uncounted at h3'
      rw [if_pos (Or.inl rfl)] at h3'
      exact absurd h3' (by decide)
    refine ⟨?_, hpos, by rw [← h5]; simpa using h1, by rw [← h5, hcl']; exact h3', ?_, ?_, ?_⟩
    · rw [sec_ne hpos, ← h5, hcl', List.cons_append, List.append_assoc]
      congr 1
      have e4 := le_num (s.take 3) (hs.take 3)
      rw [List.length_take, show min 3 s.length = 3 by omega] at e4
      rw [e4, ← h7, ← h6, List.take_append_drop, List.take_append_drop]
    · rw [← h7]; exact (hs.drop 3).take _
    · rw [← h6]; exact (hs.drop 3).drop _
    · rw [← h6, List.length_drop, List.length_drop, List.length_cons]; omega

/-! tables -/
theorem tabB_len : ∀ t : List (Int × Int), (tabB t).length = 2 * t.length
  | [] => rfl
  | x :: t => by show (tabB t).length + 2 = _; rw [tabB_len t, List.length_cons]; omega
theorem tabB_cons (x : Int × Int) (t : List (Int × Int)) : tabB (x :: t) = x.1 % 256 :: x.2 % 256 :: tabB t := rfl
theorem tabB_bytes : ∀ t : List (Int × Int), Bytes (tabB t)
  | [] => Bytes.nil
  | x :: t => by rw [tabB_cons]; exact Bytes.cons (by omega) (Bytes.cons (by omega) (tabB_bytes t))
theorem okT_iff (x : Int × Int) : okT x = true ↔ (1 ≤ x.1 ∧ x.1 ≤ 64) ∧ 1 ≤ x.2 ∧ x.2 ≤ 64 := by
  unfold okT
  simp only [Bool.and_eq_true, decide_eq_true_eq]
theorem tabsR_ok : ∀ (t acc : List (Int × Int)) (left : Nat), t.all okT = true → tabsR acc left (tabB t) = .ok (acc ++ t)
  | [], acc, left, _ => by show Except.ok acc = _; rw [List.append_nil]
  | x :: t, acc, left, h => by
    rw [List.all_cons, Bool.and_eq_true] at h
    have hx := (okT_iff x).1 h.1
    rw [tabB_cons]
    unfold tabsR
    rw [show x.1 % 256 = x.1 by omega, show x.2 % 256 = x.2 by omega, if_neg (by simp; omega), if_neg (by simp; omega), tabsR_ok t _ _ h.2, List.append_assoc]
    rfl
theorem tabsR_good : ∀ (n : Nat) (L : List Int) (acc t : List (Int × Int)) (left : Nat), L.length = 2 * n → tabsR acc left L = .ok t → ∃ u, t = acc ++ u ∧ tabB u = L ∧ u.all okT = true
  | 0, L, acc, t, left, hl, h => by
    have : L = [] := List.eq_nil_of_length_eq_zero (by omega)
    subst this
    injection h with h
    exact ⟨[], by rw [h, List.append_nil], rfl, rfl⟩
  | n + 1, L, acc, t, left, hl, h => by
    match L, hl, h with
    | [], hl, _ => simp at hl
    | [_], hl, _ => simp at hl; omega
    | a :: b :: s, hl, h =>
      unfold tabsR at h
      by_cases h1 : (decide (1 ≤ a) && decide (a ≤ 64)) = false
      · rw [if_pos h1] at h; cases h
      rw [if_neg h1] at h
      by_cases h2 : (decide (1 ≤ b) && decide (b ≤ 64)) = false
      · rw [if_pos h2] at h; cases h
      rw [if_neg h2] at h
      obtain ⟨u, e1, e2, e3⟩ := tabsR_good n s _ t _ (by simp at hl; omega) h
      have ha : 1 ≤ a ∧ a ≤ 64 := by simpa using h1
      have hb : 1 ≤ b ∧ b ≤ 64 := by simpa using h2
      refine ⟨(a, b) :: u, by rw [e1, List.append_assoc]; rfl, ?_, ?_⟩
      · rw [tabB_cons, e2]
        show a % 256 :: b % 256 :: s = _
        rw [show a % 256 = a by omega, show b % 256 = b by omega]
      · rw [List.all_cons, e3, (okT_iff (a, b)).2 ⟨ha, hb⟩]; rfl
theorem tabsR_err : ∀ (n : Nat) (L : List Int) (acc : List (Int × Int)) (left : Nat) (e : Fl), L.length ≤ n → tabsR acc left L = .error e → e.2 ≠ 0 ∧ e.1 ≤ left
  | 0, L, acc, left, e, hl, h => by
    have : L = [] := List.eq_nil_of_length_eq_zero (by omega)
    subst this
    cases h
  | n + 1, L, acc, left, e, hl, h => by
    match L, hl, h with
    | [], _, h => cases h
    | [_], _, h => cases h
    | a :: b :: s, hl, h =>
      unfold tabsR at h
      by_cases h1 : (decide (1 ≤ a) && decide (a ≤ 64)) = false
      · rw [if_pos h1] at h; injection h with h; rw [← h]; exact ⟨by omega, Nat.le_refl _⟩
      rw [if_neg h1] at h
      by_cases h2 : (decide (1 ≤ b) && decide (b ≤ 64)) = false
      · rw [if_pos h2] at h; injection h with h; rw [← h]; exact ⟨by omega, Nat.sub_le _ _⟩
      rw [if_neg h2] at h
      obtain ⟨h3, h4⟩ := tabsR_err n s _ _ e (by simp at hl; omega) h
      exact ⟨h3, by omega⟩

/-! all sections -/
theorem packR_nil {last : Int} {k : Pk} (h : last ≠ 0) : packR last k [] = .ok k := by rw [packR, if_pos rfl, if_neg h]
theorem packR_step {last kind : Int} {k k' : Pk} {c t : List Int} (hc : c ≠ []) (hf : follows last kind = true) (hu : uncounted kind c.length = 0) (hl : c.length < 16777216) (hi : into k kind c (c.length + t.length) = .ok k') : packR last k (sec kind c ++ t) = packR kind k' t := by
  have hne : sec kind c ++ t ≠ [] := by rw [sec_ne hc]; simp
  rw [packR, if_neg hne, secR_ok hc hf hu hl]
  simp only [hi]
  rw [if_pos (by rw [sec_ne hc]; simp; omega)]
theorem sizes_zero {lo hi : Int} {tabs : List (Int × Int)} {nd : Nat} (h : sizesE lo hi tabs nd = 0) : 0 ≤ lo ∧ lo ≤ hi ∧ hi ≤ 65535 ∧ tabs.length ≤ 8 ∧ tabs.all okT = true ∧ nd ≤ 4096 := by
  unfold sizesE at h
  by_cases h1 : lo < 0 ∨ hi < lo ∨ 65535 < hi
  · rw [if_pos h1] at h; exact absurd h (by decide)
  rw [if_neg h1] at h
  by_cases h2 : 8 < tabs.length ∨ tabs.all okT = false
  · rw [if_pos h2] at h; exact absurd h (by decide)
  rw [if_neg h2] at h
  by_cases h3 : 4096 < nd
  · rw [if_pos h3] at h; exact absurd h (by decide)
  have h4 : tabs.all okT = true := by
    cases e : tabs.all okT
    · exact absurd (Or.inr e) h2
    · rfl
  exact ⟨by omega, by omega, by omega, by omega, h4, by omega⟩
theorem sizes_iff (lo hi : Int) (tabs : List (Int × Int)) (nd : Nat) : sizesE lo hi tabs nd = 0 ↔ 0 ≤ lo ∧ lo ≤ hi ∧ hi ≤ 65535 ∧ tabs.length ≤ 8 ∧ tabs.all okT = true ∧ nd ≤ 4096 :=
  ⟨sizes_zero, fun ⟨a, b, c, d, e, f⟩ => by
    unfold sizesE
    rw [if_neg (by omega), if_neg (by rw [e]; simp; omega), if_neg (by omega)]⟩
theorem encE_zero {k : Pk} (h : encE k = 0) : sizesE k.lo k.hi k.tabs k.data.length = 0 ∧ (encW k).length ≤ 131072 := by
  unfold encE at h
  by_cases h1 : sizesE k.lo k.hi k.tabs k.data.length ≠ 0
  · rw [if_pos h1] at h; exact absurd h h1
  rw [if_neg h1] at h
  by_cases h2 : 131072 < (encW k).length
  · rw [if_pos h2] at h; exact absurd h (by decide)
  exact ⟨Classical.byContradiction h1, by omega⟩
theorem sec_len (k : Int) (c : List Int) : (sec k c).length = if c = [] then 0 else c.length + 4 := by
  unfold sec
  split
  · rfl
  · rw [List.length_cons, List.length_append, le_len]; omega
theorem code_len {k : Pk} (h : (encW k).length ≤ 131072) : k.code.length < 16777216 := by
  unfold encW bodyW at h
  simp only [List.length_append, sec_len] at h
  by_cases e : k.code = []
  · rw [e]; decide
  · rw [if_neg e] at h; omega
theorem lens_len (a b : Int) : (le a 2 ++ le b 2).length = 4 := by rw [List.length_append, le_len, le_len]
theorem lens_ne (a b : Int) : le a 2 ++ le b 2 ≠ [] := fun e => by have := lens_len a b; rw [e] at this; exact absurd this (by decide)
theorem body_len (k : Pk) : 12 ≤ (bodyW k).length := by
  unfold bodyW
  simp only [List.length_append]
  rw [sec_len 1, if_neg (lens_ne _ _), lens_len]
  show 12 ≤ 4 + _
  omega
theorem enc_len (k : Pk) : (encW k).length = (bodyW k).length + 4 := by unfold encW; rw [List.length_append, le_len]
theorem follows_of {last kind : Int} (h0 : last ≠ 0) (h1 : last < kind) (h2 : kind ≤ 4) : follows last kind = true := by
  unfold follows; rw [if_neg h0]; simp; omega
theorem len_pos {c : List Int} (h : c ≠ []) : 0 < c.length := by
  cases c with
  | nil => exact absurd rfl h
  | cons a t => simp
theorem rest4 (k : Pk) (last : Int) (h0 : last ≠ 0) (h1 : last < 4) (c : List Int) (hl : c.length < 16777216) : packR last { k with code := [] } (sec 4 c) = .ok { k with code := c } := by
  by_cases h : c = []
  · subst h; exact packR_nil h0
  · have hp := len_pos h
    have := packR_step (last := last) (kind := 4) (k := { k with code := [] }) (k' := { k with code := c }) (c := c) (t := []) h (follows_of h0 h1 (by decide)) (by unfold uncounted; rw [if_neg (by omega), if_neg (by omega), if_neg (by omega)]) hl rfl
    rw [List.append_nil] at this
    rw [this]; exact packR_nil (by decide)
theorem rest3 (k : Pk) (last : Int) (h0 : last ≠ 0) (h1 : last < 3) (d c : List Int) (hd : d.length ≤ 4096) (hl : c.length < 16777216) : packR last { k with data := [], code := [] } (sec 3 d ++ sec 4 c) = .ok { k with data := d, code := c } := by
  by_cases h : d = []
  · subst h; exact rest4 { k with data := [] } last h0 (by omega) c hl
  · have hp := len_pos h
    rw [packR_step (last := last) (kind := 3) (k := { k with data := [], code := [] }) (k' := { k with data := d, code := [] }) (c := d) (t := sec 4 c) h (follows_of h0 h1 (by decide)) (by unfold uncounted; rw [if_neg (by omega), if_neg (by omega), if_neg (by omega)]) (by omega) rfl]
    exact rest4 { k with data := d } 3 (by decide) (by decide) c hl
theorem rest2 (k : Pk) (t : List (Int × Int)) (d c : List Int) (ht : t.length ≤ 8) (htt : t.all okT = true) (hd : d.length ≤ 4096) (hl : c.length < 16777216) : packR 1 { k with tabs := [], data := [], code := [] } (sec 2 (tabB t) ++ (sec 3 d ++ sec 4 c)) = .ok { k with tabs := t, data := d, code := c } := by
  by_cases h : t = []
  · subst h; exact rest3 { k with tabs := [] } 1 (by decide) (by decide) d c hd hl
  · have hlen := tabB_len t
    have hp : 0 < t.length := by
      cases t with
      | nil => exact absurd rfl h
      | cons a s => simp
    have hne : tabB t ≠ [] := fun e => by rw [e] at hlen; simp at hlen; omega
    have hi : into { k with tabs := [], data := [], code := [] } 2 (tabB t) ((tabB t).length + (sec 3 d ++ sec 4 c).length) = .ok { k with tabs := t, data := [], code := [] } := by
      unfold into
      rw [if_neg (by decide), if_pos rfl, tabsR_ok t [] _ htt, List.nil_append]
    rw [packR_step (last := 1) (kind := 2) hne rfl (by unfold uncounted; rw [hlen, if_neg (by omega), if_neg (by omega), if_neg (by omega)]) (by omega) hi]
    exact rest3 { k with tabs := t } 2 (by decide) (by decide) d c hd hl
theorem take2 (a b : Int) : (le a 2 ++ le b 2).take 2 = le a 2 ∧ (le a 2 ++ le b 2).drop 2 = le b 2 := ⟨rfl, rfl⟩
theorem num2 (a : Int) (h0 : 0 ≤ a) (h : a ≤ 65535) : num (le a 2) = a := num_le 2 a h0 (by rw [p256_2]; omega)
theorem rest1 (k : Pk) (h : sizesE k.lo k.hi k.tabs k.data.length = 0) (hl : k.code.length < 16777216) : packR 0 Pk.none (sec 1 (le k.lo 2 ++ le k.hi 2) ++ (sec 2 (tabB k.tabs) ++ (sec 3 k.data ++ sec 4 k.code))) = .ok k := by
  obtain ⟨h1, h2, h3, h4, h5, h6⟩ := sizes_zero h
  have hi : into Pk.none 1 (le k.lo 2 ++ le k.hi 2) ((le k.lo 2 ++ le k.hi 2).length + (sec 2 (tabB k.tabs) ++ (sec 3 k.data ++ sec 4 k.code)).length) = .ok { lo := k.lo, hi := k.hi, tabs := [], data := [], code := [] } := by
    unfold into
    rw [if_pos rfl, (take2 _ _).1, (take2 _ _).2, num2 _ h1 (by omega), num2 _ (by omega) h3, if_neg (by omega)]
    rfl
  rw [packR_step (last := 0) (kind := 1) (lens_ne _ _) rfl (by rw [lens_len]; rfl) (by rw [lens_len]; decide) hi]
  exact rest2 k k.tabs k.data k.code h4 h5 h6 hl
theorem body_split (k : Pk) : (encW k).take ((encW k).length - 4) = bodyW k ∧ (encW k).drop ((encW k).length - 4) = le (sumN (bodyW k)) 4 := by
  rw [enc_len, Nat.add_sub_cancel]
  unfold encW
  exact ⟨List.take_left, List.drop_left⟩
theorem body_mark (k : Pk) : (bodyW k).take 4 = mark ∧ (bodyW k).drop 4 = sec 1 (le k.lo 2 ++ le k.hi 2) ++ (sec 2 (tabB k.tabs) ++ (sec 3 k.data ++ sec 4 k.code)) := ⟨rfl, rfl⟩
theorem enc_mark (k : Pk) : (encW k).take 4 = mark := rfl
theorem sum4 (L : List Int) : num (le (sumN L) 4) = sumN L := num_le 4 _ (by omega) (by rw [p256_4]; have := sumN_lt L; omega)
theorem back {k : Pk} (h : encE k = 0) : decP (encW k) = .ok k := by
  obtain ⟨h1, h2⟩ := encE_zero h
  have hl := enc_len k
  have hb := body_len k
  obtain ⟨e1, e2⟩ := body_split k
  unfold decP
  rw [if_neg (by omega), if_neg (by omega), if_neg (by rw [enc_mark]; simp), e1, e2, sum4, if_neg (by simp), (body_mark k).2, rest1 k h1 (code_len h2)]
/-- what is read is what is written -/
theorem packR_case {last : Int} {k k' : Pk} {r : List Int} (hB : Bytes r) (h : packR last k r = .ok k') : (r = [] ∧ k' = k ∧ last ≠ 0) ∨ ∃ kind c t k1, r = sec kind c ++ t ∧ c ≠ [] ∧ follows last kind = true ∧ uncounted kind c.length = 0 ∧ Bytes c ∧ Bytes t ∧ into k kind c (c.length + t.length) = .ok k1 ∧ packR kind k1 t = .ok k' := by
  rw [packR] at h
  by_cases h1 : r = []
  · rw [if_pos h1] at h
    by_cases h2 : last = 0
    · rw [if_pos h2] at h; cases h
    · rw [if_neg h2] at h; injection h with h; exact .inl ⟨h1, h.symm, h2⟩
  rw [if_neg h1] at h
  cases hs : secR last r with
  | error e => rw [hs] at h; cases h
  | ok x =>
    obtain ⟨⟨kind, c⟩, t⟩ := x
    obtain ⟨g1, g2, g3, g4, g5, g6, g7⟩ := secR_good hB hs
    rw [hs] at h
    simp only at h
    cases hi : into k kind c (c.length + t.length) with
    | error e => rw [hi] at h; cases h
    | ok k1 =>
      rw [hi] at h
      simp only at h
      rw [if_pos g7] at h
      exact .inr ⟨kind, c, t, k1, g1, g2, g3, g4, g5, g6, hi, h⟩
theorem follows_up {last kind : Int} (h0 : last ≠ 0) (h : follows last kind = true) : last < kind ∧ kind ≤ 4 := by
  unfold follows at h
  rw [if_neg h0] at h
  simpa using h
theorem forth4 {k k' : Pk} {r : List Int} (hB : Bytes r) (h : packR 4 k r = .ok k') : r = [] ∧ k' = k := by
  rcases packR_case hB h with ⟨h1, h2, _⟩ | ⟨kind, c, t, k1, _, _, hf, _⟩
  · exact ⟨h1, h2⟩
  · have := follows_up (by decide) hf; omega
theorem forth3 {k k' : Pk} {last : Int} {r : List Int} (h0 : last = 3) (hB : Bytes r) (hc : k.code = []) (h : packR last k r = .ok k') : ∃ c, r = sec 4 c ∧ k' = { k with code := c } ∧ Bytes c := by
  rcases packR_case hB h with ⟨h1, h2, _⟩ | ⟨kind, c, t, k1, e, _, hf, _, b1, b2, hi, h3⟩
  · exact ⟨[], h1, by rw [h2, ← hc], Bytes.nil⟩
  · have := follows_up (by omega) hf
    obtain rfl : kind = 4 := by omega
    injection hi with hi
    obtain ⟨rfl, e2⟩ := forth4 b2 h3
    exact ⟨c, by rw [e, List.append_nil], by rw [e2, ← hi], b1⟩
theorem congr2 {k : Pk} (hd : k.data = []) (hc : k.code = []) : k = { k with data := [], code := [] } := by
  obtain ⟨_, _, _, _, _⟩ := k; simp only at hd hc; subst hd hc; rfl
theorem congr3 {k : Pk} (ht : k.tabs = []) (hd : k.data = []) (hc : k.code = []) : k = { k with tabs := [], data := [], code := [] } := by
  obtain ⟨_, _, _, _, _⟩ := k; simp only at ht hd hc; subst ht hd hc; rfl
theorem forth2 {k k' : Pk} {last : Int} {r : List Int} (h0 : last = 2) (hB : Bytes r) (hd : k.data = []) (hc : k.code = []) (h : packR last k r = .ok k') : ∃ d c, r = sec 3 d ++ sec 4 c ∧ k' = { k with data := d, code := c } ∧ d.length ≤ 4096 ∧ Bytes d ∧ Bytes c := by
  rcases packR_case hB h with ⟨h1, h2, _⟩ | ⟨kind, c, t, k1, e, _, hf, hu, b1, b2, hi, h3⟩
  · exact ⟨[], [], h1, by rw [h2]; exact congr2 hd hc, by simp, Bytes.nil, Bytes.nil⟩
  · have := follows_up (by omega) hf
    rcases (show kind = 3 ∨ kind = 4 by omega) with rfl | rfl
    · injection hi with hi
      obtain ⟨c', e1, e2, b3⟩ := forth3 rfl b2 (by rw [← hi]; exact hc) h3
      refine ⟨c, c', by rw [e, e1], by rw [e2, ← hi], ?_, b1, b3⟩
      unfold uncounted at hu
      by_cases h4 : (c.length : Int) = 0 ∨ ((3 : Int) = 1 ∧ (c.length : Int) ≠ 4) ∨ ((3 : Int) = 2 ∧ (c.length : Int) % 2 ≠ 0)
      · rw [if_pos h4] at hu; exact absurd hu (by decide)
      rw [if_neg h4, if_neg (by omega)] at hu
      by_cases h5 : (3 : Int) = 3 ∧ 4096 < (c.length : Int)
      · rw [if_pos h5] at hu; exact absurd hu (by decide)
      omega
    · injection hi with hi
      obtain ⟨rfl, e2⟩ := forth4 b2 h3
      exact ⟨[], c, by rw [e, List.append_nil]; rfl, by rw [e2, ← hi, ← hd], by simp, Bytes.nil, b1⟩
theorem forth1 {k k' : Pk} {last : Int} {r : List Int} (h0 : last = 1) (hB : Bytes r) (ht : k.tabs = []) (hd : k.data = []) (hc : k.code = []) (h : packR last k r = .ok k') :
    ∃ u d c, r = sec 2 (tabB u) ++ (sec 3 d ++ sec 4 c) ∧ k' = { k with tabs := u, data := d, code := c } ∧ u.length ≤ 8 ∧ u.all okT = true ∧ d.length ≤ 4096 ∧ Bytes d ∧ Bytes c := by
  rcases packR_case hB h with ⟨h1, h2, _⟩ | ⟨kind, c, t, k1, e, hne, hf, hu, b1, b2, hi, h3⟩
  · exact ⟨[], [], [], h1, by rw [h2]; exact congr3 ht hd hc, by simp, rfl, by simp, Bytes.nil, Bytes.nil⟩
  · have := follows_up (by omega) hf
    have hu' := hu
    unfold uncounted at hu
    by_cases h4 : (c.length : Int) = 0 ∨ (kind = 1 ∧ (c.length : Int) ≠ 4) ∨ (kind = 2 ∧ (c.length : Int) % 2 ≠ 0)
    · rw [if_pos h4] at hu; exact absurd hu (by decide)
    rw [if_neg h4] at hu
    rcases (show kind = 2 ∨ kind = 3 ∨ kind = 4 by omega) with rfl | rfl | rfl
    · by_cases h5 : (2 : Int) = 2 ∧ 16 < (c.length : Int)
      · rw [if_pos h5] at hu; exact absurd hu (by decide)
      unfold into at hi
      rw [if_neg (by decide), if_pos rfl] at hi
      cases htr : tabsR [] (c.length + t.length) c with
      | error x => rw [htr] at hi; cases hi
      | ok u =>
        rw [htr] at hi
        injection hi with hi
        obtain ⟨u', e1, e2, e3⟩ := tabsR_good (c.length / 2) c [] u _ (by omega) htr
        rw [List.nil_append] at e1
        subst e1
        obtain ⟨d, c', e4, e5, e6, b3, b4⟩ := forth2 rfl b2 (by rw [← hi]; exact hd) (by rw [← hi]; exact hc) h3
        have hl := tabB_len u
        rw [e2] at hl
        exact ⟨u, d, c', by rw [e, e4, e2], by rw [e5, ← hi], by omega, e3, e6, b3, b4⟩
    · injection hi with hi
      obtain ⟨c', e1, e2, b3⟩ := forth3 rfl b2 (by rw [← hi]; exact hc) h3
      refine ⟨[], c, c', by rw [e, e1]; rfl, by rw [e2, ← hi, ← ht], by simp, rfl, ?_, b1, b3⟩
      rw [if_neg (by omega)] at hu
      by_cases h5 : (3 : Int) = 3 ∧ 4096 < (c.length : Int)
      · rw [if_pos h5] at hu; exact absurd hu (by decide)
      omega
    · injection hi with hi
      obtain ⟨rfl, e2⟩ := forth4 b2 h3
      exact ⟨[], [], c, by rw [e, List.append_nil]; rfl, by rw [e2, ← hi, ← hd, ← ht], by simp, rfl, by simp, Bytes.nil, b1⟩
theorem forth0 {k' : Pk} {r : List Int} (hB : Bytes r) (h : packR 0 Pk.none r = .ok k') : r = sec 1 (le k'.lo 2 ++ le k'.hi 2) ++ (sec 2 (tabB k'.tabs) ++ (sec 3 k'.data ++ sec 4 k'.code)) ∧ sizesE k'.lo k'.hi k'.tabs k'.data.length = 0 ∧ Bytes k'.data ∧ Bytes k'.code := by
  rcases packR_case hB h with ⟨_, _, h2⟩ | ⟨kind, c, t, k1, e, hne, hf, hu, b1, b2, hi, h3⟩
  · exact absurd rfl h2
  · obtain rfl : kind = 1 := by unfold follows at hf; rw [if_pos rfl] at hf; simpa using hf
    unfold uncounted at hu
    by_cases h4 : (c.length : Int) = 0 ∨ ((1 : Int) = 1 ∧ (c.length : Int) ≠ 4) ∨ ((1 : Int) = 2 ∧ (c.length : Int) % 2 ≠ 0)
    · rw [if_pos h4] at hu; exact absurd hu (by decide)
    have hl : c.length = 4 := by omega
    unfold into at hi
    rw [if_pos rfl] at hi
    by_cases h5 : num (c.drop 2) < num (c.take 2)
    · rw [if_pos h5] at hi; cases hi
    rw [if_neg h5] at hi
    injection hi with hi
    obtain ⟨u, d, c', e1, e2, l1, l2, l3, b3, b4⟩ := forth1 rfl b2 (by rw [← hi]; rfl) (by rw [← hi]; rfl) (by rw [← hi]; rfl) h3
    have n1 := num_nn _ (b1.take 2)
    have n2 := num_lt _ (b1.drop 2)
    rw [List.length_drop, hl, p256_2] at n2
    have e3 := le_num _ (b1.take 2)
    have e4 := le_num _ (b1.drop 2)
    rw [List.length_take, hl] at e3
    rw [List.length_drop, hl] at e4
    rw [e2, ← hi]
    refine ⟨?_, (sizes_iff _ _ _ _).2 ⟨n1, by simp; omega, by simp; omega, l1, l2, l3⟩, b3, b4⟩
    rw [e, e1]
    show sec 1 c ++ _ = sec 1 (le (num (c.take 2)) 2 ++ le (num (c.drop 2)) 2) ++ _
    rw [show le (num (c.take 2)) 2 = c.take 2 from e3, show le (num (c.drop 2)) 2 = c.drop 2 from e4, List.take_append_drop]
theorem forth {L : List Int} {k : Pk} (hB : Bytes L) (h : decP L = .ok k) : encW k = L ∧ encE k = 0 ∧ Bytes k.data ∧ Bytes k.code := by
  unfold decP at h
  by_cases h1 : 131072 < L.length
  · rw [if_pos h1] at h; cases h
  rw [if_neg h1] at h
  by_cases h2 : L.length < 8
  · rw [if_pos h2] at h; cases h
  rw [if_neg h2] at h
  by_cases h3 : L.take 4 ≠ mark
  · rw [if_pos h3] at h; cases h
  rw [if_neg h3] at h
  by_cases h4 : num (L.drop (L.length - 4)) ≠ sumN (L.take (L.length - 4))
  · rw [if_pos h4] at h; cases h
  rw [if_neg h4] at h
  have h4 := Classical.byContradiction h4
  have h3 := Classical.byContradiction h3
  cases hp : packR 0 Pk.none ((L.take (L.length - 4)).drop 4) with
  | error x => rw [hp] at h; cases h
  | ok k1 =>
    rw [hp] at h
    injection h with h
    subst h
    obtain ⟨e1, e2, b1, b2⟩ := forth0 ((hB.take _).drop _) hp
    have e3 : bodyW k1 = L.take (L.length - 4) := by
      unfold bodyW
      rw [← e1, ← h3]
      conv => rhs; rw [← List.take_append_drop 4 (L.take (L.length - 4))]
      rw [List.take_take, show min 4 (L.length - 4) = 4 by omega]
    have e4 : encW k1 = L := by
      unfold encW
      rw [e3, ← h4]
      have := le_num _ (hB.drop (L.length - 4))
      rw [List.length_drop, show L.length - (L.length - 4) = 4 by omega] at this
      rw [this, List.take_append_drop]
    refine ⟨e4, ?_, b1, b2⟩
    unfold encE
    rw [if_neg (by rw [e2]; simp), e4, if_neg h1]
/-! faults -/
theorem secR_err {last : Int} {r : List Int} {e : Fl} (h : secR last r = .error e) : e.2 ≠ 0 ∧ e.1 ≤ r.length := by
  cases r with
  | nil => injection h with h; rw [← h]; exact ⟨by omega, Nat.le_refl _⟩
  | cons b s =>
    change secC _ _ _ = _ at h
    unfold secC at h
    by_cases h1 : follows last b = false
    · rw [if_pos h1] at h; injection h with h; rw [← h]; exact ⟨by omega, Nat.le_refl _⟩
    rw [if_neg h1] at h
    by_cases h2 : s.length < 3
    · rw [if_pos h2] at h; injection h with h; rw [← h]; exact ⟨by omega, Nat.zero_le _⟩
    rw [if_neg h2] at h
    by_cases h3 : uncounted b (num (s.take 3)) ≠ 0
    · rw [if_pos h3] at h; injection h with h; rw [← h]; exact ⟨h3, Nat.le_succ _⟩
    rw [if_neg h3] at h
    by_cases h4 : (s.drop 3).length < (num (s.take 3)).toNat
    · rw [if_pos h4] at h; injection h with h; rw [← h]; exact ⟨by omega, Nat.zero_le _⟩
    rw [if_neg h4] at h; cases h
theorem into_err {k : Pk} {kind : Int} {c : List Int} {left : Nat} {e : Fl} (h : into k kind c left = .error e) : e.2 ≠ 0 ∧ e.1 ≤ left := by
  unfold into at h
  by_cases h1 : kind = 1
  · rw [if_pos h1] at h
    by_cases h2 : num (c.drop 2) < num (c.take 2)
    · rw [if_pos h2] at h; injection h with h; rw [← h]; exact ⟨by omega, Nat.le_refl _⟩
    · rw [if_neg h2] at h; cases h
  rw [if_neg h1] at h
  by_cases h2 : kind = 2
  · rw [if_pos h2] at h
    cases ht : tabsR [] left c with
    | error x => rw [ht] at h; injection h with h; subst h; exact tabsR_err _ _ _ _ _ (Nat.le_refl _) ht
    | ok x => rw [ht] at h; cases h
  rw [if_neg h2] at h
  by_cases h3 : kind = 3
  · rw [if_pos h3] at h; cases h
  · rw [if_neg h3] at h; cases h
theorem packR_err : ∀ (n : Nat) (r : List Int) (last : Int) (k : Pk) (e : Fl), r.length ≤ n → Bytes r → packR last k r = .error e → e.2 ≠ 0 ∧ e.1 ≤ r.length := by
  intro n
  induction n with
  | zero =>
    intro r last k e hl hB h
    have : r = [] := List.eq_nil_of_length_eq_zero (by omega)
    subst this
    rw [packR, if_pos rfl] at h
    by_cases h2 : last = 0
    · rw [if_pos h2] at h; injection h with h; rw [← h]; exact ⟨by omega, Nat.le_refl _⟩
    · rw [if_neg h2] at h; cases h
  | succ n ih =>
    intro r last k e hl hB h
    rw [packR] at h
    by_cases h1 : r = []
    · rw [if_pos h1] at h
      by_cases h2 : last = 0
      · rw [if_pos h2] at h; injection h with h; rw [← h]; exact ⟨by omega, Nat.zero_le _⟩
      · rw [if_neg h2] at h; cases h
    rw [if_neg h1] at h
    cases hs : secR last r with
    | error e' => rw [hs] at h; injection h with h; subst h; exact secR_err hs
    | ok x =>
      obtain ⟨⟨kind, c⟩, t⟩ := x
      obtain ⟨g1, g2, g3, g4, g5, g6, g7⟩ := secR_good hB hs
      rw [hs] at h
      simp only at h
      have hlen : r.length = 4 + c.length + t.length := by
        rw [g1, sec_ne g2, List.length_append, List.length_cons, List.length_append, le_len]; omega
      cases hi : into k kind c (c.length + t.length) with
      | error e' =>
        rw [hi] at h; injection h with h; subst h
        have := into_err hi
        exact ⟨this.1, by omega⟩
      | ok k1 =>
        rw [hi] at h
        simp only at h
        rw [if_pos g7] at h
        have := ih t kind k1 e (by omega) g6 h
        exact ⟨this.1, by omega⟩
theorem decP_err {L : List Int} {a : Nat} {e : Int} (hB : Bytes L) (h : decP L = .error (a, e)) : e ≠ 0 ∧ a ≤ L.length := by
  unfold decP at h
  by_cases h1 : 131072 < L.length
  · rw [if_pos h1] at h; injection h with h; injection h with ha he; omega
  rw [if_neg h1] at h
  by_cases h2 : L.length < 8
  · rw [if_pos h2] at h; injection h with h; injection h with ha he; omega
  rw [if_neg h2] at h
  by_cases h3 : L.take 4 ≠ mark
  · rw [if_pos h3] at h; injection h with h; injection h with ha he; omega
  rw [if_neg h3] at h
  by_cases h4 : num (L.drop (L.length - 4)) ≠ sumN (L.take (L.length - 4))
  · rw [if_pos h4] at h; injection h with h; injection h with ha he; omega
  rw [if_neg h4] at h
  cases hp : packR 0 Pk.none ((L.take (L.length - 4)).drop 4) with
  | error x =>
    obtain ⟨lf, er⟩ := x
    rw [hp] at h
    injection h with h
    injection h with ha he
    have := packR_err _ _ _ _ _ (Nat.le_refl _) ((hB.take _).drop _) hp
    exact ⟨by rw [← he]; exact this.1, by omega⟩
  | ok k => rw [hp] at h; cases h
/-! one byte is turned -/
theorem num_inj {A B : List Int} (hA : Bytes A) (hB : Bytes B) (hl : A.length = B.length) (h : num A = num B) : A = B := by
  rw [← le_num A hA, ← le_num B hB, h, hl]
theorem turned {k : Pk} (h : encE k = 0) (hd : Bytes k.data) (hc : Bytes k.code) {i : Nat} {y : Int} (hi : i < (encW k).length) (hy : IsB y) (hne : (encW k)[i]? ≠ some y) :
    decP ((encW k).set i y) = if i < 4 then .error (0, 120) else .error ((encW k).length - 4, 124) := by
  obtain ⟨h1, h2⟩ := encE_zero h
  have hl := enc_len k
  have hb := body_len k
  obtain ⟨e1, e2⟩ := body_split k
  unfold decP
  rw [List.length_set, if_neg (by omega), if_neg (by omega)]
  by_cases h4 : i < 4
  · rw [if_pos h4, if_pos]
    intro e
    refine hne ?_
    have h5 := congrArg (fun l => l[i]?) (e.trans (enc_mark k).symm)
    simp only [List.getElem?_take, if_pos h4] at h5
    rw [← h5, List.getElem?_set_self hi]
  rw [if_neg h4, if_neg (by rw [List.take_set, List.set_eq_of_length_le (by rw [List.length_take]; omega), enc_mark]; simp), if_pos]
  intro e
  have hBb : Bytes (bodyW k) := by
    unfold bodyW
    refine Bytes.app (by unfold mark; intro x hx; simp at hx; unfold IsB; omega) (Bytes.app (sec_bytes (by unfold IsB; omega) ((le_bytes _ _).app (le_bytes _ _))) (Bytes.app (sec_bytes (by unfold IsB; omega) (tabB_bytes _)) (Bytes.app (sec_bytes (by unfold IsB; omega) hd) (sec_bytes (by unfold IsB; omega) hc))))
  by_cases h5 : i < (encW k).length - 4
  · rw [List.drop_set_of_lt h5, List.take_set, e1, e2, sum4] at e
    refine sumF_set (bodyW k) 2166136261 i y hBb (by decide) (by omega) hy ?_ (by have : ((sumN (bodyW k) : Nat) : Int) = ((sumN ((bodyW k).set i y) : Nat) : Int) := e; unfold sumN at this; omega)
    rw [← e1, List.getElem?_take, if_pos h5]; exact hne
  · rw [List.take_set, e1, List.set_eq_of_length_le (l := bodyW k) (by omega), List.drop_set, if_neg (by omega), e2] at e
    have h6 := num_inj (A := (le (sumN (bodyW k)) 4).set (i - ((encW k).length - 4)) y) (B := le (sumN (bodyW k)) 4) (fun x hx => by
      rcases List.mem_or_eq_of_mem_set hx with h7 | h7
      · exact le_bytes _ _ x h7
      · rw [h7]; exact hy) (le_bytes _ _) (by rw [List.length_set]) (e.trans (sum4 _).symm)
    have h7 : ((le (sumN (bodyW k)) 4).set (i - ((encW k).length - 4)) y)[i - ((encW k).length - 4)]? = (le (sumN (bodyW k)) 4)[i - ((encW k).length - 4)]? := by rw [h6]
    rw [List.getElem?_set_self (by rw [le_len]; omega), ← e2, List.getElem?_drop, show (encW k).length - 4 + (i - ((encW k).length - 4)) = i by omega] at h7
    exact hne h7.symm
theorem unlike {k o : Pk} (h : encE k = 0) (h' : encE o = 0) : encW k = encW o ↔ k = o := ⟨fun e => by
  have h1 := back h
  rw [e, back h'] at h1
  injection h1 with h1
  exact h1.symm, fun e => by rw [e]⟩
theorem enc_bytes {k : Pk} (hd : Bytes k.data) (hc : Bytes k.code) : Bytes (encW k) := by
  unfold encW bodyW
  refine Bytes.app (Bytes.app (by unfold mark; intro x hx; simp at hx; unfold IsB; omega) (Bytes.app (sec_bytes (by unfold IsB; omega) ((le_bytes _ _).app (le_bytes _ _))) (Bytes.app (sec_bytes (by unfold IsB; omega) (tabB_bytes _)) (Bytes.app (sec_bytes (by unfold IsB; omega) hd) (sec_bytes (by unfold IsB; omega) hc))))) (le_bytes _ _)
end Go.Proofs.Ytkfcfoidaalnlaa.Pak
