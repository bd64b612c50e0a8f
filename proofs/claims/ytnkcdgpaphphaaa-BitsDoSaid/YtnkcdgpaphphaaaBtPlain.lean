/- Numbers as lists of bits, the lowest first: sums, differences, products, quotients by long division, what they come to. No program. -/
import Derived.Test.YtnkcdgpaphphaaaGrPlain
namespace Go.Proofs.Ytnkcdgpaphphaaa.Gr
open Go

/-- What bits come to without a sign. -/
def un : List Bool → Nat
  | [] => 0
  | b :: bs => b.toNat + 2 * un bs
theorem un_lt (bs : List Bool) : un bs < 2 ^ bs.length := by
  induction bs with
  | nil => simp [un]
  | cons b bs ih =>
    have : b.toNat ≤ 1 := Bool.toNat_le b
    rw [un, List.length_cons, Nat.pow_succ]; omega
theorem un_append (xs bs : List Bool) : un (xs ++ bs) = un xs + 2 ^ xs.length * un bs := by
  induction xs with
  | nil => simp [un]
  | cons a xs ih =>
    rw [List.cons_append, un, un, ih, List.length_cons, Nat.pow_succ, Nat.mul_add, Nat.mul_assoc, Nat.mul_left_comm]; omega
theorem un_zeros (n : Nat) : un (List.replicate n false) = 0 := by
  induction n with
  | zero => rfl
  | succ n ih => rw [List.replicate_succ, un, ih]; rfl
theorem un_not (bs : List Bool) : un (bs.map (!·)) + un bs + 1 = 2 ^ bs.length := by
  induction bs with
  | nil => rfl
  | cons b bs ih =>
    rw [List.map_cons, un, un, List.length_cons, Nat.pow_succ]
    cases b <;> simp <;> omega
theorem un_any (bs : List Bool) : bs.any id = decide (un bs ≠ 0) := by
  induction bs with
  | nil => rfl
  | cons b bs ih =>
    rw [List.any_cons, ih, un]
    cases b
    · have : (un bs ≠ 0) ↔ (false.toNat + 2 * un bs ≠ 0) := by simp only [Bool.toNat_false]; omega
      simp only [Bool.false_or, id, this]
    · have : true.toNat + 2 * un bs ≠ 0 := by simp only [Bool.toNat_true]; omega
      simp only [id, Bool.true_or, this, ne_eq, not_false_eq_true, decide_true]
theorem un_inj : ∀ (xs bs : List Bool), xs.length = bs.length → un xs = un bs → xs = bs := by
  intro xs
  induction xs with
  | nil => intro bs h _; cases bs with
    | nil => rfl
    | cons => cases h
  | cons a xs ih =>
    intro bs h e
    cases bs with
    | nil => cases h
    | cons b bs =>
      rw [un, un] at e
      have h' : xs.length = bs.length := by simpa using h
      have ha := Bool.toNat_le a
      have hb := Bool.toNat_le b
      have e1 : a.toNat = b.toNat := by omega
      have e2 : un xs = un bs := by omega
      rw [ih bs h' e2]
      cases a <;> cases b <;> simp_all
theorem un_take_drop (bs : List Bool) (i : Nat) (hi : i ≤ bs.length) : un bs = un (bs.take i) + 2 ^ i * un (bs.drop i) := by
  conv => lhs; rw [← List.take_append_drop i bs]
  rw [un_append, List.length_take, Nat.min_eq_left hi]

/-- The sum, what is carried behind it. -/
def addL : List Bool → List Bool → Bool → List Bool × Bool
  | a :: xs, b :: bs, c => let r := addL xs bs ((a && b) || ((a != b) && c)); (((a != b) != c) :: r.1, r.2)
  | _, _, c => ([], c)
theorem addL_len : ∀ (xs bs : List Bool) (c : Bool), xs.length = bs.length → (addL xs bs c).1.length = xs.length := by
  intro xs
  induction xs with
  | nil => intro bs c _; rfl
  | cons a xs ih =>
    intro bs c h
    cases bs with
    | nil => cases h
    | cons b bs => simp only [addL, List.length_cons]; rw [ih bs _ (by simpa using h)]
theorem addL_un : ∀ (xs bs : List Bool) (c : Bool), xs.length = bs.length → un (addL xs bs c).1 + 2 ^ xs.length * (addL xs bs c).2.toNat = un xs + un bs + c.toNat := by
  intro xs
  induction xs with
  | nil => intro bs c h; cases bs with
    | nil => simp [addL, un]
    | cons => cases h
  | cons a xs ih =>
    intro bs c h
    cases bs with
    | nil => cases h
    | cons b bs =>
      have := ih bs ((a && b) || ((a != b) && c)) (by simpa using h)
      simp only [addL, un, List.length_cons, Nat.pow_succ]
      generalize un (addL xs bs ((a && b) || ((a != b) && c))).1 = p at *
      generalize (addL xs bs ((a && b) || ((a != b) && c))).2 = q at *
      have h2 : 2 ^ xs.length * 2 * q.toNat = 2 * (2 ^ xs.length * q.toNat) := by rw [Nat.mul_right_comm, Nat.mul_comm _ 2]
      rw [h2]
      generalize 2 ^ xs.length * q.toNat = z at *
      cases a <;> cases b <;> cases c <;> simp at this ⊢ <;> omega
/-- One more bit on top. -/
theorem addL_snoc : ∀ (xs bs : List Bool) (c a b : Bool), xs.length = bs.length → addL (xs ++ [a]) (bs ++ [b]) c = ((addL xs bs c).1 ++ [(a != b) != (addL xs bs c).2], (a && b) || ((a != b) && (addL xs bs c).2)) := by
  intro xs
  induction xs with
  | nil => intro bs c a b h; cases bs with
    | nil => rfl
    | cons => cases h
  | cons x xs ih =>
    intro bs c a b h
    cases bs with
    | nil => cases h
    | cons y bs =>
      simp only [List.cons_append, addL]
      rw [ih bs _ a b (by simpa using h)]

/-- a - b, and whether b is at most a. -/
def subL (xs bs : List Bool) : List Bool × Bool := addL xs (bs.map (!·)) true
theorem subL_len (xs bs : List Bool) (h : xs.length = bs.length) : (subL xs bs).1.length = xs.length := addL_len _ _ _ (by simpa using h)
theorem subL_un (xs bs : List Bool) (h : xs.length = bs.length) : un (subL xs bs).1 + 2 ^ xs.length * (subL xs bs).2.toNat + un bs = un xs + 2 ^ xs.length := by
  have h1 := addL_un xs (bs.map (!·)) true (by simpa using h)
  have h2 := un_not bs
  rw [← h] at h2
  show un (addL xs (bs.map (!·)) true).1 + 2 ^ xs.length * (addL xs (bs.map (!·)) true).2.toNat + un bs = _
  simp at h1
  omega
theorem subL_enough (xs bs : List Bool) (h : xs.length = bs.length) : (subL xs bs).2 = decide (un bs ≤ un xs) := by
  have h1 := subL_un xs bs h
  have h2 := un_lt (subL xs bs).1
  rw [subL_len xs bs h] at h2
  have h3 := un_lt bs
  rw [← h] at h3
  cases e : (subL xs bs).2
  · rw [e] at h1; simp at h1; symm; simp; omega
  · rw [e] at h1; simp at h1; symm; simp; omega
theorem subL_diff (xs bs : List Bool) (h : xs.length = bs.length) (hl : un bs ≤ un xs) : un (subL xs bs).1 = un xs - un bs := by
  have h1 := subL_un xs bs h
  rw [subL_enough xs bs h] at h1
  simp [hl] at h1
  omega

def maskL (c : Bool) (v : List Bool) : List Bool := v.map (c && ·)
theorem maskL_un (c : Bool) (v : List Bool) : un (maskL c v) = if c then un v else 0 := by
  unfold maskL
  cases c
  · simp
    induction v with
    | nil => rfl
    | cons a v ih => rw [List.map_cons, un, ih]; rfl
  · simp
def turnL (c : Bool) (v : List Bool) : List Bool := (addL (v.map (c != ·)) (List.replicate v.length false) c).1
theorem turnL_len (c : Bool) (v : List Bool) : (turnL c v).length = v.length := by unfold turnL; rw [addL_len _ _ _ (by simp)]; simp
theorem turnL_un (c : Bool) (v : List Bool) : un (turnL c v) = if c then (2 ^ v.length - un v) % 2 ^ v.length else un v := by
  have h1 := addL_un (v.map (c != ·)) (List.replicate v.length false) c (by simp)
  have h2 := un_lt (turnL c v)
  have h3 := un_lt v
  have h4 := un_not v
  rw [turnL_len] at h2
  unfold turnL at *
  rw [un_zeros] at h1
  cases c
  · simp at h1 ⊢
    have e0 : v.map (false != ·) = v := by
      conv => rhs; rw [← List.map_id v]
      apply List.map_congr_left; intro a _; cases a <;> rfl
    rw [e0] at h2
    generalize (addL v (List.replicate v.length false) false) = r at *
    cases e : r.2
    · rw [e] at h1; simpa using h1
    · rw [e] at h1; simp at h1; omega
  · simp at h1 ⊢
    have e1 : (v.map fun x => true != x) = v.map (!·) := by apply List.map_congr_left; intro a _; cases a <;> rfl
    simp at e1
    simp at h2
    generalize (addL (v.map fun x => !x) (List.replicate v.length false) true) = r at *
    cases e : r.2
    · rw [e] at h1; simp at h1
      rw [Nat.mod_eq_of_lt (by omega)]; omega
    · rw [e] at h1; simp at h1
      have : un r.1 = 0 := by omega
      have h5 : un v = 0 := by omega
      rw [this, h5, Nat.sub_zero, Nat.mod_self]

/-- The signs. -/
def sgn (v : List Bool) : Bool := v.getLastD false
def trimZ (n : Int) (w : Nat) : Int := Int.bmod n (2 ^ w)
def sg (v : List Bool) : Int := trimZ (un v) v.length
theorem pow_pos' (w : Nat) : 0 < 2 ^ w := Nat.two_pow_pos w
theorem sgn_top {v : List Bool} (h : v ≠ []) : sgn v = decide (2 ^ (v.length - 1) ≤ un v) := by
  have e := List.dropLast_concat_getLast h
  have hl : v.dropLast.length = v.length - 1 := List.length_dropLast
  have h1 : un v = un v.dropLast + 2 ^ (v.length - 1) * (v.getLast h).toNat := by
    conv => lhs; rw [← e]
    rw [un_append, hl]; simp [un]
  have h2 := un_lt v.dropLast
  rw [hl] at h2
  have h3 : sgn v = v.getLast h := by unfold sgn; rw [List.getLastD_eq_getLast?, List.getLast?_eq_some_getLast h]; rfl
  rw [h3, h1]
  cases v.getLast h
  · symm; simp; omega
  · symm; simp
theorem pow_half {w : Nat} (h : 0 < w) : 2 ^ w = 2 * 2 ^ (w - 1) := by
  conv => lhs; rw [show w = (w - 1) + 1 by omega, Nat.pow_succ]
  omega
theorem trimZ_of {n : Int} {w : Nat} (h0 : -(2 ^ (w - 1) : Nat) ≤ n) (h1 : n < (2 ^ (w - 1) : Nat)) (hw : 0 < w) : trimZ n w = n := by
  have hp := pow_half hw
  unfold trimZ
  rw [hp]
  generalize 2 ^ (w - 1) = p at *
  exact Int.bmod_eq_of_le_mul_two (by omega) (by omega)
theorem sg_eq {v : List Bool} (h : v ≠ []) : sg v = if sgn v then (un v : Int) - (2 ^ v.length : Nat) else (un v : Int) := by
  have hl : 0 < v.length := List.length_pos_iff.2 h
  have h1 := un_lt v
  have h2 := pow_half hl
  rw [sgn_top h]
  unfold sg trimZ
  rw [h2] at h1 ⊢
  generalize 2 ^ (v.length - 1) = p at *
  generalize un v = u at *
  by_cases q : p ≤ u
  · simp only [q, decide_true, if_true]
    have e : (u : Int) = ((u : Int) - ((2 * p : Nat) : Int)) + ((2 * p : Nat) : Int) := by omega
    rw [e, Int.add_bmod_right]
    rw [Int.bmod_eq_of_le_mul_two (by omega) (by omega)]
    omega
  · simp only [q, decide_false, Bool.false_eq_true, if_false]
    exact Int.bmod_eq_of_le_mul_two (by omega) (by omega)
theorem trimZ_add (a b : Int) (w : Nat) : trimZ (trimZ a w + trimZ b w) w = trimZ (a + b) w := by unfold trimZ; rw [Int.bmod_add_bmod, Int.add_bmod_bmod]
theorem trimZ_sub (a b : Int) (w : Nat) : trimZ (trimZ a w - trimZ b w) w = trimZ (a - b) w := by unfold trimZ; rw [Int.bmod_sub_bmod, Int.sub_bmod_bmod]
theorem trimZ_mul (a b : Int) (w : Nat) : trimZ (trimZ a w * trimZ b w) w = trimZ (a * b) w := by unfold trimZ; rw [Int.bmod_mul_bmod, Int.mul_bmod_bmod]
theorem trimZ_trimZ (a : Int) (w : Nat) : trimZ (trimZ a w) w = trimZ a w := by unfold trimZ; rw [Int.bmod_bmod]
theorem trimZ_congr {a b : Int} {w : Nat} (h : a % (2 ^ w : Nat) = b % (2 ^ w : Nat)) : trimZ a w = trimZ b w := by
  unfold trimZ Int.bmod; rw [h]
theorem trimZ_add_mul (a k : Int) (w : Nat) : trimZ (a + k * (2 ^ w : Nat)) w = trimZ a w := trimZ_congr (by simp)
theorem trimZ_lt (a : Int) {w : Nat} (hw : 0 < w) : -(2 ^ (w - 1) : Nat) ≤ trimZ a w ∧ trimZ a w < (2 ^ (w - 1) : Nat) := by
  have h := pow_half hw
  have h1 := Int.le_bmod (x := a) (pow_pos' w)
  have h2 := Int.bmod_lt (x := a) (pow_pos' w)
  unfold trimZ
  rw [h] at h1 h2 ⊢
  generalize 2 ^ (w - 1) = p at *
  generalize a.bmod (2 * p) = z at *
  omega

theorem add_sg (xs bs : List Bool) (c : Bool) (h : xs.length = bs.length) : sg (addL xs bs c).1 = trimZ (sg xs + sg bs + c.toNat) xs.length := by
  have h1 := addL_un xs bs c h
  have e : ((un (addL xs bs c).1 : Nat) : Int) = ((un xs : Int) + un bs + c.toNat) + (-((addL xs bs c).2.toNat : Int)) * (2 ^ xs.length : Nat) := by
    have : ((un (addL xs bs c).1 + 2 ^ xs.length * (addL xs bs c).2.toNat : Nat) : Int) = ((un xs + un bs + c.toNat : Nat) : Int) := by rw [h1]
    push_cast at this ⊢
    rw [Int.neg_mul, Int.mul_comm ((addL xs bs c).2.toNat : Int)]
    omega
  unfold sg
  rw [addL_len xs bs c h, e, trimZ_add_mul, ← h]
  unfold trimZ
  rw [Int.add_bmod ((un xs : Int).bmod (2 ^ xs.length) + (un bs : Int).bmod (2 ^ xs.length)), ← Int.add_bmod (un xs : Int), ← Int.add_bmod]
theorem sub_sg (xs bs : List Bool) (h : xs.length = bs.length) : sg (subL xs bs).1 = trimZ (sg xs - sg bs) xs.length := by
  have h1 := subL_un xs bs h
  have e : ((un (subL xs bs).1 : Nat) : Int) = ((un xs : Int) - un bs) + (1 - ((subL xs bs).2.toNat : Int)) * (2 ^ xs.length : Nat) := by
    have : ((un (subL xs bs).1 + 2 ^ xs.length * (subL xs bs).2.toNat + un bs : Nat) : Int) = ((un xs + 2 ^ xs.length : Nat) : Int) := by rw [h1]
    push_cast at this ⊢
    rw [Int.sub_mul, Int.mul_comm ((subL xs bs).2.toNat : Int)]
    omega
  unfold sg
  rw [subL_len xs bs h, e, trimZ_add_mul, ← h, trimZ_sub]
theorem turn_sg (c : Bool) (v : List Bool) : sg (turnL c v) = trimZ (if c then -sg v else sg v) v.length := by
  have h := turnL_un c v
  have h3 := un_lt v
  unfold sg
  rw [turnL_len, h]
  cases c
  · simp only [Bool.false_eq_true, if_false]; rw [trimZ_trimZ]
  · simp only [if_true]
    have e1 : trimZ (((2 ^ v.length - un v) % 2 ^ v.length : Nat) : Int) v.length = trimZ (-(un v : Int)) v.length := by
      have hp := pow_pos' v.length
      apply trimZ_congr
      generalize 2 ^ v.length = p at *
      generalize un v = u at *
      by_cases z : u = 0
      · subst z; simp
      · rw [Nat.mod_eq_of_lt (by omega), Int.natCast_sub (by omega), Int.emod_eq_of_lt (by omega) (by omega)]
        rw [show (-(u : Int)) = ((p : Int) - u) + (-1) * p by omega, Int.add_mul_emod_self_right, Int.emod_eq_of_lt (by omega) (by omega)]
    rw [e1]
    have := trimZ_sub 0 (un v : Int) v.length
    rw [show trimZ 0 v.length = 0 from Int.zero_bmod] at this
    simpa using this.symm

/-- Products: the first k bits of b have been looked at. -/
def mulL (xs bs : List Bool) : Nat → List Bool
  | 0 => List.replicate xs.length false
  | k + 1 => let r := mulL xs bs k
    r.take k ++ (addL (r.drop k) (maskL (bs.getD k false) (xs.take (xs.length - k))) false).1
theorem mulL_len (xs bs : List Bool) : ∀ k, k ≤ xs.length → (mulL xs bs k).length = xs.length := by
  intro k
  induction k with
  | zero => intro _; simp [mulL]
  | succ k ih =>
    intro hk
    have h := ih (by omega)
    simp only [mulL]
    rw [List.length_append, addL_len _ _ _ (by simp [maskL]; omega), List.length_take, List.length_drop, h]
    omega
theorem getD_un (bs : List Bool) (k : Nat) (hk : k < bs.length) : un (bs.take (k + 1)) = un (bs.take k) + 2 ^ k * (bs.getD k false).toNat := by
  rw [List.take_add_one, un_append, List.length_take, Nat.min_eq_left (by omega)]
  rw [List.getElem?_eq_getElem hk]
  simp [un, List.getD_eq_getElem?_getD, List.getElem?_eq_getElem hk]
theorem mulL_un (xs bs : List Bool) (h : xs.length = bs.length) : ∀ k, k ≤ xs.length → un (mulL xs bs k) % 2 ^ xs.length = (un xs * un (bs.take k)) % 2 ^ xs.length := by
  intro k
  induction k with
  | zero => intro _; simp [mulL, un_zeros, un]
  | succ k ih =>
    intro hk
    have hl := mulL_len xs bs k (by omega)
    have h0 := ih (by omega)
    have h1 := addL_un ((mulL xs bs k).drop k) (maskL (bs.getD k false) (xs.take (xs.length - k))) false (by simp [maskL]; omega)
    have h2 := un_take_drop (mulL xs bs k) k (by omega)
    have h3 := un_take_drop xs (xs.length - k) (by omega)
    have e0 : un (mulL xs bs (k + 1)) = un ((mulL xs bs k).take k) + 2 ^ k * un (addL ((mulL xs bs k).drop k) (maskL (bs.getD k false) (xs.take (xs.length - k))) false).1 := by
      simp only [mulL]
      rw [un_append, List.length_take, Nat.min_eq_left (by omega)]
    rw [e0, getD_un bs k (by omega)]
    rw [maskL_un] at h1
    have hp : 2 ^ xs.length = 2 ^ k * 2 ^ (xs.length - k) := by rw [← Nat.pow_add]; congr 1; omega
    have hd : ((mulL xs bs k).drop k).length = xs.length - k := by rw [List.length_drop, hl]
    rw [hd] at h1
    generalize addL ((mulL xs bs k).drop k) (maskL (bs.getD k false) (xs.take (xs.length - k))) false = r at *
    generalize un ((mulL xs bs k).take k) = p at *
    generalize un ((mulL xs bs k).drop k) = q at *
    generalize un (mulL xs bs k) = R at *
    have key : p + 2 ^ k * un r.1 + 2 ^ xs.length * (r.2.toNat + (if bs.getD k false then un (xs.drop (xs.length - k)) else 0)) = R + 2 ^ k * (if bs.getD k false then un xs else 0) := by
      rw [hp, Nat.mul_add, h2]
      have : 2 ^ k * un r.1 + 2 ^ k * 2 ^ (xs.length - k) * r.2.toNat = 2 ^ k * (q + (if bs.getD k false then un (xs.take (xs.length - k)) else 0)) := by
        rw [Nat.mul_assoc, ← Nat.mul_add, h1]; simp
      rw [Nat.mul_add] at this
      generalize bs.getD k false = z at *
      cases z
      · simp only [Bool.false_eq_true, if_false, Nat.add_zero, Nat.mul_zero] at this ⊢
        omega
      · simp only [if_true] at this ⊢
        rw [h3, Nat.mul_add, ← Nat.mul_assoc]
        omega
    have k2 : (p + 2 ^ k * un r.1) % 2 ^ xs.length = (R + 2 ^ k * (if bs.getD k false then un xs else 0)) % 2 ^ xs.length := by
      rw [← key, Nat.add_mul_mod_self_left]
    rw [k2, Nat.mul_add, ← Nat.mod_add_mod, h0, Nat.mod_add_mod]
    congr 2
    cases bs.getD k false <;> simp [Nat.mul_comm]
def prodL (xs bs : List Bool) : List Bool := mulL xs bs xs.length
theorem mul_sg (xs bs : List Bool) (h : xs.length = bs.length) : sg (prodL xs bs) = trimZ (sg xs * sg bs) xs.length := by
  have h1 := mulL_un xs bs h xs.length (Nat.le_refl _)
  have h2 := mulL_len xs bs xs.length (Nat.le_refl _)
  rw [h, List.take_length, ← h] at h1
  unfold prodL
  unfold sg
  rw [h2, ← h, trimZ_mul]
  apply trimZ_congr
  have : ((un (mulL xs bs xs.length) % 2 ^ xs.length : Nat) : Int) = ((un xs * un bs % 2 ^ xs.length : Nat) : Int) := by rw [h1]
  push_cast at this ⊢
  exact this

/-- One step of long division: i is the place of the bit that is taken. -/
def divStep (b : List Bool) (a : Bool) (q rest : List Bool) : List Bool × List Bool :=
  let r := a :: rest
  let d := subL r (b.take r.length)
  let c := d.2 && !((b.drop r.length).any id)
  (c :: q, if c then d.1 else r)
/-- Quotient and remainder, the highest bits first taken. -/
def divL (b : List Bool) : List Bool → List Bool × List Bool
  | [] => ([], [])
  | a :: xs => let r := divL b xs; divStep b a r.1 r.2
theorem divL_len (b : List Bool) : ∀ xs, xs.length ≤ b.length → (divL b xs).1.length = xs.length ∧ (divL b xs).2.length = xs.length := by
  intro xs
  induction xs with
  | nil => intro _; exact ⟨rfl, rfl⟩
  | cons a xs ih =>
    intro h
    have hl : xs.length + 1 ≤ b.length := by simpa using h
    obtain ⟨h1, h2⟩ := ih (by omega)
    simp only [divL, divStep, List.length_cons, h1]
    refine ⟨trivial, ?_⟩
    split
    · rw [subL_len _ _ (by simp [h2]; omega)]; simp [h2]
    · simp [h2]
theorem div_step (A B a : Nat) (hB : 0 < B) (ha : a ≤ 1) : (B ≤ a + 2 * (A % B) → (a + 2 * A) / B = 1 + 2 * (A / B) ∧ (a + 2 * A) % B = a + 2 * (A % B) - B) ∧ (¬ B ≤ a + 2 * (A % B) → (a + 2 * A) / B = 2 * (A / B) ∧ (a + 2 * A) % B = a + 2 * (A % B)) := by
  have hd := Nat.div_add_mod A B
  have hr := Nat.mod_lt A hB
  generalize A / B = q at *
  generalize A % B = r at *
  subst hd
  constructor
  · intro h
    have e : a + 2 * (B * q + r) = (a + 2 * r - B) + B * (1 + 2 * q) := by
      rw [Nat.mul_add B, Nat.mul_left_comm]; omega
    rw [e, Nat.add_mul_div_left _ _ hB, Nat.add_mul_mod_self_left, Nat.div_eq_of_lt (by omega), Nat.mod_eq_of_lt (by omega)]
    exact ⟨by omega, rfl⟩
  · intro h
    have e : a + 2 * (B * q + r) = (a + 2 * r) + B * (2 * q) := by
      rw [Nat.mul_left_comm]; omega
    rw [e, Nat.add_mul_div_left _ _ hB, Nat.add_mul_mod_self_left, Nat.div_eq_of_lt (by omega), Nat.mod_eq_of_lt (by omega)]
    exact ⟨by omega, rfl⟩
theorem divL_un (b : List Bool) (hb : un b ≠ 0) : ∀ xs, xs.length ≤ b.length → un (divL b xs).1 = un xs / un b ∧ un (divL b xs).2 = un xs % un b := by
  intro xs
  induction xs with
  | nil => intro _; exact ⟨by simp [divL, un], by simp [divL, un]⟩
  | cons a xs ih =>
    intro h
    have hl : xs.length + 1 ≤ b.length := by simpa using h
    obtain ⟨h1, h2⟩ := ih (by omega)
    obtain ⟨l1, l2⟩ := divL_len b xs (by omega)
    have hlen : (a :: (divL b xs).2).length = xs.length + 1 := by simp [l2]
    have e1 := subL_enough (a :: (divL b xs).2) (b.take (xs.length + 1)) (by simp [l2]; omega)
    have e2 := subL_diff (a :: (divL b xs).2) (b.take (xs.length + 1)) (by simp [l2]; omega)
    have e3 := un_take_drop b (xs.length + 1) hl
    have e4 := un_lt (a :: (divL b xs).2)
    rw [hlen] at e4
    have hx : un (a :: (divL b xs).2) = a.toNat + 2 * (un xs % un b) := by rw [un, h2]
    have hmod := Nat.mod_lt (un xs) (Nat.pos_of_ne_zero hb)
    have hdm := Nat.div_add_mod (un xs) (un b)
    have hat := Bool.toNat_le a
    -- the bit of the quotient
    have hc : ((subL (a :: (divL b xs).2) (b.take (xs.length + 1))).2 && !((b.drop (xs.length + 1)).any id)) = decide (un b ≤ un (a :: (divL b xs).2)) := by
      rw [e1, un_any]
      by_cases z : un (b.drop (xs.length + 1)) = 0
      · rw [z, Nat.mul_zero, Nat.add_zero] at e3
        simp [z, e3]
      · have : 2 ^ (xs.length + 1) ≤ 2 ^ (xs.length + 1) * un (b.drop (xs.length + 1)) := Nat.le_mul_of_pos_right _ (Nat.pos_of_ne_zero z)
        have q : ¬ un b ≤ un (a :: (divL b xs).2) := by omega
        simp [z, q]
    simp only [divL, divStep, hlen]
    rw [hc]
    by_cases q : un b ≤ un (a :: (divL b xs).2)
    · simp only [q, decide_true, if_true]
      have z : un (b.drop (xs.length + 1)) = 0 := by
        refine Classical.byContradiction fun z => ?_
        have : 2 ^ (xs.length + 1) ≤ 2 ^ (xs.length + 1) * un (b.drop (xs.length + 1)) := Nat.le_mul_of_pos_right _ (Nat.pos_of_ne_zero z)
        omega
      rw [z, Nat.mul_zero, Nat.add_zero] at e3
      rw [e2 (by omega), ← e3, un, un, h1, hx]
      rw [hx] at q
      obtain ⟨k1, k2⟩ := (div_step (un xs) (un b) a.toNat (Nat.pos_of_ne_zero hb) hat).1 q
      exact ⟨by rw [k1]; rfl, k2.symm⟩
    · simp only [q, decide_false, Bool.false_eq_true, if_false]
      rw [un, hx, h1, un]
      rw [hx] at q
      obtain ⟨k1, k2⟩ := (div_step (un xs) (un b) a.toNat (Nat.pos_of_ne_zero hb) hat).2 q
      exact ⟨by rw [k1]; simp, k2.symm⟩

def magL (v : List Bool) : List Bool := turnL (sgn v) v
theorem magL_un (v : List Bool) (h : v ≠ []) : un (magL v) = (sg v).natAbs := by
  have h1 := turnL_un (sgn v) v
  have h2 := un_lt v
  have h3 := pow_half (List.length_pos_iff.2 h)
  unfold magL
  rw [h1, sg_eq h]
  have h4 := sgn_top h
  cases e : sgn v
  · simp
  · rw [e] at h4
    have := of_decide_eq_true h4.symm
    have hp := pow_pos' (v.length - 1)
    simp only [if_true]
    rw [h3] at h2 ⊢
    generalize 2 ^ (v.length - 1) = p at *
    rw [Nat.mod_eq_of_lt (by omega)]
    omega
theorem sgn_neg (v : List Bool) (h : v ≠ []) : sgn v = decide (sg v < 0) := by
  have h2 := un_lt v
  rw [sg_eq h]
  generalize 2 ^ v.length = p at *
  generalize un v = u at *
  cases sgn v
  · simp
  · have : (u : Int) - (p : Int) < 0 := by omega
    simp [this]
theorem any_sg (v : List Bool) (h : v ≠ []) : v.any id = decide (sg v ≠ 0) := by
  have h2 := un_lt v
  rw [un_any, sg_eq h]
  have h4 := sgn_top h
  cases e : sgn v
  · simp
  · rw [e] at h4
    have := of_decide_eq_true h4.symm
    have hp := pow_pos' (v.length - 1)
    have hp2 := pow_half (List.length_pos_iff.2 h)
    have a1 : un v ≠ 0 := by omega
    have a2 : (un v : Int) - ((2 ^ v.length : Nat) : Int) ≠ 0 := by omega
    simp only [a1, a2, if_true, ne_eq, not_false_eq_true, decide_true]
def quotL (xs bs : List Bool) : List Bool := maskL (bs.any id) (turnL (sgn xs != sgn bs) (divL (magL bs) (magL xs)).1)
def remL (xs bs : List Bool) : List Bool := maskL (bs.any id) (turnL (sgn xs) (divL (magL bs) (magL xs)).2)
theorem sg_mask (c : Bool) (v : List Bool) : sg (maskL c v) = if c then sg v else 0 := by
  unfold sg
  rw [maskL_un, show (maskL c v).length = v.length by simp [maskL]]
  cases c
  · simp [trimZ]
  · simp
theorem trimZ_zero (w : Nat) : trimZ 0 w = 0 := Int.zero_bmod
theorem trimZ_neg (a : Int) (w : Nat) : trimZ (-trimZ a w) w = trimZ (-a) w := by
  have := trimZ_sub 0 a w
  rw [trimZ_zero] at this
  simpa using this
theorem quot_sg (xs bs : List Bool) (h : xs.length = bs.length) (hne : xs ≠ []) : sg (quotL xs bs) = if sg bs = 0 then 0 else trimZ (if (decide (sg xs < 0) != decide (sg bs < 0)) then -(((sg xs).natAbs / (sg bs).natAbs : Nat) : Int) else (((sg xs).natAbs / (sg bs).natAbs : Nat) : Int)) xs.length := by
  have hbe : bs ≠ [] := fun e => hne (List.eq_nil_of_length_eq_zero (by rw [h, e]; rfl))
  unfold quotL
  rw [sg_mask, any_sg bs hbe]
  by_cases z : sg bs = 0
  · simp [z]
  · simp only [z, ne_eq, not_false_eq_true, decide_true, if_true, if_false]
    have la : (magL xs).length = xs.length := turnL_len _ _
    have lb : (magL bs).length = bs.length := turnL_len _ _
    have hz : un (magL bs) ≠ 0 := by rw [magL_un bs hbe]; omega
    have h1 := (divL_un (magL bs) hz (magL xs) (by omega)).1
    have h2 := (divL_len (magL bs) (magL xs) (by omega)).1
    rw [magL_un xs hne, magL_un bs hbe] at h1
    rw [turn_sg, h2, la, sgn_neg xs hne, sgn_neg bs hbe]
    unfold sg at *
    rw [h1, h2, la]
    split
    · rw [trimZ_neg]
    · rw [trimZ_trimZ]
theorem rem_sg (xs bs : List Bool) (h : xs.length = bs.length) (hne : xs ≠ []) : sg (remL xs bs) = if sg bs = 0 then 0 else trimZ (if (decide (sg xs < 0)) then -(((sg xs).natAbs % (sg bs).natAbs : Nat) : Int) else (((sg xs).natAbs % (sg bs).natAbs : Nat) : Int)) xs.length := by
  have hbe : bs ≠ [] := fun e => hne (List.eq_nil_of_length_eq_zero (by rw [h, e]; rfl))
  unfold remL
  rw [sg_mask, any_sg bs hbe]
  by_cases z : sg bs = 0
  · simp [z]
  · simp only [z, ne_eq, not_false_eq_true, decide_true, if_true, if_false]
    have la : (magL xs).length = xs.length := turnL_len _ _
    have lb : (magL bs).length = bs.length := turnL_len _ _
    have hz : un (magL bs) ≠ 0 := by rw [magL_un bs hbe]; omega
    have h1 := (divL_un (magL bs) hz (magL xs) (by omega)).2
    have h2 := (divL_len (magL bs) (magL xs) (by omega)).2
    rw [magL_un xs hne, magL_un bs hbe] at h1
    rw [turn_sg, h2, la, sgn_neg xs hne]
    unfold sg at *
    rw [h1, h2, la]
    split
    · rw [trimZ_neg]
    · rw [trimZ_trimZ]

/-- Sign-extension and cutting. -/
def wideL {α : Type} (d : α) (v : List α) (w : Nat) : List α := (List.range w).map fun i => v.getD (min i (v.length - 1)) d
theorem wideL_len {α : Type} (d : α) (v : List α) (w : Nat) : (wideL d v w).length = w := by simp [wideL]
theorem wideL_map {α β : Type} (f : α → β) (d : α) (v : List α) (w : Nat) : (wideL d v w).map f = wideL (f d) (v.map f) w := by
  unfold wideL
  rw [List.map_map]
  apply List.map_congr_left
  intro i _
  simp only [Function.comp, List.length_map, List.getD_eq_getElem?_getD, List.getElem?_map]
  cases v[min i (v.length - 1)]? <;> rfl
theorem wideL_same {α : Type} (d : α) (v : List α) : wideL d v v.length = v := by
  apply List.ext_getElem
  · simp [wideL]
  · intro i h1 h2
    simp only [wideL, List.getElem_map, List.getElem_range]
    rw [Nat.min_eq_left (by omega), List.getD_eq_getElem?_getD, List.getElem?_eq_getElem h2]
    rfl
theorem wideL_take {α : Type} (d : α) (v : List α) (w : Nat) (h : w ≤ v.length) : wideL d v w = v.take w := by
  apply List.ext_getElem
  · simp [wideL]; omega
  · intro i h1 h2
    have : i < w := by simpa [wideL] using h1
    simp only [wideL, List.getElem_map, List.getElem_range]
    rw [Nat.min_eq_left (by omega), List.getD_eq_getElem?_getD, List.getElem?_eq_getElem (by omega), List.getElem_take]
    rfl
theorem wideL_more (v : List Bool) (h : v ≠ []) (k : Nat) : wideL false v (v.length + k) = v ++ List.replicate k (sgn v) := by
  have hl : 0 < v.length := List.length_pos_iff.2 h
  apply List.ext_getElem
  · simp [wideL]
  · intro i h1 h2
    simp only [wideL, List.getElem_map, List.getElem_range]
    by_cases q : i < v.length
    · rw [Nat.min_eq_left (by omega), List.getD_eq_getElem?_getD, List.getElem?_eq_getElem q, List.getElem_append_left q]; rfl
    · rw [Nat.min_eq_right (by omega), List.getElem_append_right (by omega), List.getElem_replicate, List.getD_eq_getElem?_getD, ← List.getLast?_eq_getElem?]
      unfold sgn
      rw [List.getLastD_eq_getLast?]
theorem un_ones (n : Nat) : un (List.replicate n true) + 1 = 2 ^ n := by
  induction n with
  | zero => rfl
  | succ n ih => rw [List.replicate_succ, un, Nat.pow_succ]; simp; omega
theorem wide_sg_more (v : List Bool) (h : v ≠ []) (k : Nat) : sg (wideL false v (v.length + k)) = sg v := by
  have hl : 0 < v.length := List.length_pos_iff.2 h
  have hne : v ++ List.replicate k (sgn v) ≠ [] := by simp [h]
  have hs : sgn (v ++ List.replicate k (sgn v)) = sgn v := by
    unfold sgn
    rw [List.getLastD_eq_getLast?, List.getLastD_eq_getLast?, List.getLast?_append]
    cases k with
    | zero => simp
    | succ k => simp [List.getLast?_replicate]
  rw [wideL_more v h, sg_eq hne, sg_eq h, hs, un_append, List.length_append, List.length_replicate]
  cases e : sgn v
  · simp [un_zeros]
  · simp only [if_true]
    have := un_ones k
    rw [Nat.pow_add]
    have e1 : 2 ^ v.length * un (List.replicate k true) + 2 ^ v.length = 2 ^ v.length * 2 ^ k := by rw [← this, Nat.mul_add, Nat.mul_one]
    omega
theorem wide_sg_less (v : List Bool) (w : Nat) (h : w ≤ v.length) : sg (wideL false v w) = trimZ (sg v) w := by
  rw [wideL_take _ _ _ h]
  unfold sg
  rw [List.length_take, Nat.min_eq_left h]
  have e := un_take_drop v w h
  have hp : (2 ^ v.length : Nat) = 2 ^ w * 2 ^ (v.length - w) := by rw [← Nat.pow_add]; congr 1; omega
  have e1 : ((un v : Nat) : Int) = (un (v.take w) : Int) + (un (v.drop w) : Int) * (2 ^ w : Nat) := by
    rw [e]; push_cast; rw [Int.mul_comm (2 ^ w : Int)]
  have e2 : trimZ ((un v : Nat) : Int) w = trimZ ((un (v.take w) : Nat) : Int) w := by rw [e1, trimZ_add_mul]
  rw [← e2]
  obtain ⟨k, hk⟩ : ∃ k : Int, trimZ (un v : Int) v.length = (un v : Int) + k * (2 ^ w : Nat) := by
    refine ⟨-(Int.bdiv (un v : Int) (2 ^ v.length)) * (2 ^ (v.length - w) : Nat), ?_⟩
    unfold trimZ
    rw [Int.mul_assoc, ← Int.natCast_mul, Nat.mul_comm, ← hp, Int.neg_mul, Int.mul_comm, Int.bmod_eq_self_sub_mul_bdiv]
    omega
  rw [hk, trimZ_add_mul]

/-- A number's bits. -/
def bitsL (n : Int) (w : Nat) : List Bool := (List.range w).map fun i => decide ((n / (2 ^ i : Nat)) % 2 = 1)
theorem bitsL_len (n : Int) (w : Nat) : (bitsL n w).length = w := by simp [bitsL]
theorem emod_two_more (n p : Int) (hp : 0 < p) : n % p + p * (n / p % 2) = n % (p * 2) := by
  have h1 := Int.emod_add_mul_ediv n p
  have h2 := Int.emod_add_mul_ediv (n / p) 2
  have h3 := Int.emod_nonneg n (show p ≠ 0 by omega)
  have h4 := Int.emod_lt_of_pos n hp
  generalize n / p / 2 = q at *
  have e : n = (n % p + p * (n / p % 2)) + (p * 2) * q := by
    rw [Int.mul_assoc, Int.add_assoc, ← Int.mul_add, h2]; omega
  have e2 : n % (p * 2) = ((n % p + p * (n / p % 2)) + (p * 2) * q) % (p * 2) := congrArg (· % (p * 2)) e
  rw [e2, Int.add_mul_emod_self_left]
  clear e e2 h1
  generalize n % p = r at *
  rcases Int.emod_two_eq (n / p) with h | h
  · rw [h, Int.emod_eq_of_lt (by omega) (by omega)]
  · rw [h, Int.emod_eq_of_lt (by omega) (by omega)]
theorem bitsL_un (n : Int) : ∀ w, (un (bitsL n w) : Int) = n % (2 ^ w : Nat) := by
  intro w
  induction w with
  | zero => simp [bitsL, un]
  | succ w ih =>
    have e : bitsL n (w + 1) = bitsL n w ++ [decide ((n / (2 ^ w : Nat)) % 2 = 1)] := by unfold bitsL; rw [List.range_succ, List.map_append]; rfl
    rw [e, un_append, bitsL_len]
    push_cast at ih ⊢
    rw [ih]
    have h2 : (un [decide (n / 2 ^ w % 2 = 1)] : Int) = n / 2 ^ w % 2 := by
      simp [un]
      rcases Int.emod_two_eq (n / 2 ^ w) with h | h <;> simp [h]
    rw [h2, Int.pow_succ, emod_two_more n (2 ^ w) (Int.pow_pos (by omega))]
theorem bits_sg (n : Int) (w : Nat) : sg (bitsL n w) = trimZ n w := by
  unfold sg
  rw [bitsL_un, bitsL_len]
  exact trimZ_congr (by simp)
theorem sg_inj {xs bs : List Bool} (h : xs.length = bs.length) : sg xs = sg bs ↔ xs = bs := by
  constructor
  · intro e
    by_cases hn : xs = []
    · subst hn; exact (List.eq_nil_of_length_eq_zero h.symm).symm
    · have hb : bs ≠ [] := fun e => hn (List.eq_nil_of_length_eq_zero (by rw [h, e]; rfl))
      rw [sg_eq hn, sg_eq hb, ← h] at e
      have h1 := un_lt xs
      have h2 := un_lt bs
      rw [← h] at h2
      refine un_inj xs bs h ?_
      split at e <;> split at e <;> omega
  · intro e; rw [e]

/-- a is less than b, without signs; the highest bits last. -/
def lessL : List Bool → List Bool → Bool → Bool
  | a :: xs, b :: bs, c => lessL xs bs ((!a && b) || (c && (!a || b)))
  | _, _, c => c
theorem lessL_un : ∀ (xs bs : List Bool) (c : Bool), xs.length = bs.length → lessL xs bs c = decide (un xs < un bs + c.toNat) := by
  intro xs
  induction xs with
  | nil => intro bs c h; cases bs with
    | nil => cases c <;> simp [lessL, un]
    | cons => cases h
  | cons a xs ih =>
    intro bs c h
    cases bs with
    | nil => cases h
    | cons b bs =>
      simp only [lessL]
      rw [ih bs _ (by simpa using h), un, un]
      cases a <;> cases b <;> cases c <;> simp <;> omega
theorem lessL_snoc : ∀ (xs bs : List Bool) (c a b : Bool), xs.length = bs.length → lessL (xs ++ [a]) (bs ++ [b]) c = ((!a && b) || (lessL xs bs c && (!a || b))) := by
  intro xs
  induction xs with
  | nil => intro bs c a b h; cases bs with
    | nil => rfl
    | cons => cases h
  | cons x xs ih =>
    intro bs c a b h
    cases bs with
    | nil => cases h
    | cons y bs =>
      simp only [List.cons_append, lessL]
      exact ih bs _ a b (by simpa using h)
/-- With the signs turned round. -/
def lessS (xs bs : List Bool) : Bool := lessL (xs.dropLast ++ [sgn bs]) (bs.dropLast ++ [sgn xs]) false
theorem lessS_sg (xs bs : List Bool) (h : xs.length = bs.length) (hne : xs ≠ []) : lessS xs bs = decide (sg xs < sg bs) := by
  have hbe : bs ≠ [] := fun e => hne (List.eq_nil_of_length_eq_zero (by rw [h, e]; rfl))
  unfold lessS
  have la : xs.dropLast.length = xs.length - 1 := List.length_dropLast
  have lb : bs.dropLast.length = xs.length - 1 := by rw [h]; exact List.length_dropLast
  rw [lessL_un _ _ _ (by simp [la, lb]), un_append, un_append, la, lb, sg_eq hne, sg_eq hbe, ← h]
  have key : ∀ v : List Bool, v ≠ [] → un v = un v.dropLast + 2 ^ (v.length - 1) * (sgn v).toNat := fun v hv => by
    have e := List.dropLast_concat_getLast hv
    conv => lhs; rw [← e]
    rw [un_append, List.length_dropLast]
    have h3 : sgn v = v.getLast hv := by unfold sgn; rw [List.getLastD_eq_getLast?, List.getLast?_eq_some_getLast hv]; rfl
    rw [h3]; simp [un]
  have ka := key xs hne
  have kb := key bs hbe
  rw [← h] at kb
  have ua := un_lt xs.dropLast
  have ub := un_lt bs.dropLast
  rw [la] at ua
  rw [lb] at ub
  have hp := pow_half ((List.length_pos_iff.2 hne))
  rw [ka, kb]
  rw [hp]
  generalize 2 ^ (xs.length - 1) = p at *
  generalize un xs.dropLast = u at *
  generalize un bs.dropLast = v at *
  refine decide_eq_decide.2 ?_
  cases sgn xs <;> cases sgn bs <;> simp only [un, Bool.toNat_true, Bool.toNat_false, Nat.mul_zero, Nat.add_zero, Nat.mul_one, if_true, if_false, Bool.false_eq_true] <;> omega

end Go.Proofs.Ytnkcdgpaphphaaa.Gr
