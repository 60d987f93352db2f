import PyProof.Rows.All
import Wide.All
import OpenK.AllK
import Wide.FinOn
import HandS.ForMost
import HandS.ForExc
import HandS.IsInst
import HandS.Conv
import HandS.StrMore
import HandS.Style
import HandS.SetFor
import HandS.Strs
import HandS.TryOnly
import HandS.ExcOwn
import HandS.ExcIs
import HandS.CallSlots
import HandS.WordsExc
import PyProof.CallFns
import HandS.RaiseMore
import HandS.ExcInit
import HandS.ExcField
import PyProof.EnumMake
import PyProof.Draws
import KE.GoesMore
import PyProof.Rows.RegReprOcc
import KE.KExcIs
import HandS.WideBits
import PyProof.StrLawsRepr
import HandS.Star
import HandS.Comp
import KE.DataMinMax
import KE.SortData
import KE.KxIndex
import PyProof.Rows.RowBridgeK
import HandS.SortKw
import HandS.Deep
import KE.GoesEnum
import KE.GoesZip
import HandS.Iter
import HandS.Defaults
import PySem.Challenge.RW_notchsafe_k37_check_rules_refused
set_option Elab.async false
set_option linter.all false
set_option maxRecDepth 100000
/-! N0 -/
set_option autoImplicit false
namespace N
def binom : Nat → Nat → Nat
  | _, 0 => 1
  | 0, _ + 1 => 0
  | n + 1, k + 1 => binom n k + binom n (k + 1)
theorem binom_zero (n : Nat) : binom n 0 = 1 := by cases n <;> rfl
theorem binom_ss (n k : Nat) : binom (n + 1) (k + 1) = binom n k + binom n (k + 1) := rfl
theorem binom_gt : ∀ {n k : Nat}, n < k → binom n k = 0
  | 0, 0, h => absurd h (by omega)
  | 0, _ + 1, _ => rfl
  | _ + 1, 0, h => absurd h (by omega)
  | n + 1, k + 1, h => by rw [binom_ss, binom_gt (by omega), binom_gt (by omega)]
theorem binom_self : ∀ n : Nat, binom n n = 1
  | 0 => rfl
  | n + 1 => by rw [binom_ss, binom_self n, binom_gt (by omega)]
theorem binom_pos : ∀ {n k : Nat}, k ≤ n → 0 < binom n k
  | n, 0, _ => by rw [binom_zero]; omega
  | 0, _ + 1, h => absurd h (by omega)
  | n + 1, k + 1, h => by
    have := binom_pos (n := n) (k := k) (by omega)
    rw [binom_ss]; omega
theorem binom_mul : ∀ (n k : Nat), binom n (k + 1) * (k + 1) = binom n k * (n - k)
  | 0, k => by
    rw [show 0 - k = 0 by omega, Nat.mul_zero, binom_gt (by omega), Nat.zero_mul]
  | n + 1, 0 => by
    have h := binom_mul n 0
    rw [binom_zero] at h
    rw [binom_ss, binom_zero, binom_zero]
    simp only [Nat.zero_add, Nat.mul_one, Nat.one_mul, Nat.sub_zero] at h ⊢
    omega
  | n + 1, k + 1 => by
    have h1 := binom_mul n (k + 1)
    have h2 := binom_mul n k
    rw [binom_ss n (k + 1), binom_ss n k, Nat.add_mul, Nat.add_mul, h1, show n + 1 - (k + 1) = n - k by omega, ← h2, ← Nat.mul_add, ← Nat.mul_add]
    by_cases h : k + 1 ≤ n
    · rw [show k + 1 + 1 + (n - (k + 1)) = k + 1 + (n - k) by omega]
    · rw [binom_gt (show n < k + 1 by omega), Nat.zero_mul, Nat.zero_mul]
theorem binom_le (n : Nat) : ∀ k : Nat, binom n k ≤ 2 ^ n := by
  induction n with
  | zero => intro k; cases k with
    | zero => exact Nat.le_refl _
    | succ k => exact Nat.zero_le _
  | succ n ih =>
    intro k
    cases k with
    | zero => rw [binom_zero]; exact Nat.one_le_two_pow
    | succ k =>
      have h1 := ih k
      have h2 := ih (k + 1)
      rw [binom_ss, Nat.pow_succ]; omega
/-- one turn of the loop -/
theorem turn (n p : Nat) : ((binom n p : Int) * ((n : Int) - ((1 : Int) + p) + 1)) / ((1 : Int) + p) = (binom n (p + 1) : Int) := by
  have h := binom_mul n p
  by_cases hp : p ≤ n
  · have e : ((binom n p : Int) * ((n : Int) - ((1 : Int) + p) + 1)) = (binom n (p + 1) : Int) * ((1 : Int) + p) := by
      have e1 : ((n : Int) - ((1 : Int) + p) + 1) = ((n - p : Nat) : Int) := by omega
      have e2 : ((1 : Int) + p) = ((p + 1 : Nat) : Int) := by omega
      rw [e1, e2, ← Int.natCast_mul, ← Int.natCast_mul, h]
    rw [e, Int.mul_ediv_cancel _ (by omega)]
  · rw [binom_gt (show n < p by omega), binom_gt (show n < p + 1 by omega)]
    show (0 : Int) * _ / _ = 0
    rw [Int.zero_mul, Int.zero_ediv]
def prow (n : Nat) : List Nat := (List.range (n + 1)).map (binom n)
theorem prow_len (n : Nat) : (prow n).length = n + 1 := by simp [prow]
theorem prow_get {n i : Nat} (h : i ≤ n) : (prow n)[i]? = some (binom n i) := by
  unfold prow
  rw [List.getElem?_map, List.getElem?_range (by omega)]
  rfl
theorem prow_succ (n : Nat) : prow (n + 1) = [1] ++ (List.range n).map (fun i => binom n i + binom n (i + 1)) ++ [1] := by
  unfold prow
  rw [List.range_succ_eq_map (n := n + 1), List.map_cons, List.map_map, List.range_succ (n := n), List.map_append]
  show binom (n + 1) 0 :: (_ ++ [binom (n + 1) (n + 1)]) = _
  rw [binom_zero, binom_self]
  rfl
theorem sym_aux : ∀ (n : Nat) {k : Nat}, k ≤ n → binom n (n - k) = binom n k
  | 0, 0, _ => rfl
  | n + 1, 0, _ => by rw [Nat.sub_zero, binom_self, binom_zero]
  | n + 1, k + 1, h => by
    by_cases hk : k = n
    · subst hk
      rw [Nat.sub_self, binom_zero, binom_self]
    · have e : n + 1 - (k + 1) = (n - (k + 1)) + 1 := by omega
      rw [e, binom_ss, binom_ss, sym_aux n (k := k + 1) (by omega), show n - (k + 1) + 1 = n - k by omega, sym_aux n (k := k) (by omega)]
      omega
end N

/-! N1 -/
set_option autoImplicit false
namespace N
/-! sticks as lists of signs: 46 plain, 120 notched -/
def cn (l : List Nat) : Nat := l.count 120
def okl (l : List Nat) : Bool := l.all fun c => c == 46 || c == 120
theorem okl_cons {c : Nat} {r : List Nat} (h : okl (c :: r) = true) : (c = 46 ∨ c = 120) ∧ okl r = true := by
  unfold okl at h ⊢
  rw [List.all_cons, Bool.and_eq_true] at h
  exact ⟨by simpa using h.1, h.2⟩
theorem cn_p (r : List Nat) : cn (46 :: r) = cn r := by simp [cn]
theorem cn_x (r : List Nat) : cn (120 :: r) = cn r + 1 := by simp [cn]
theorem cn_le (l : List Nat) : cn l ≤ l.length := List.count_le_length
def num : List Nat → Nat
  | [] => 0
  | c :: r => (if c = 120 then binom r.length (cn (c :: r)) else 0) + num r
theorem num_p (r : List Nat) : num (46 :: r) = num r := by simp [num]
theorem num_x (r : List Nat) : num (120 :: r) = binom r.length (cn r + 1) + num r := by
  show (if (120 : Nat) = 120 then binom r.length (cn (120 :: r)) else 0) + num r = _
  rw [if_pos rfl, cn_x]
theorem binom_mono (n : Nat) : ∀ k, binom n k ≤ binom (n + 1) k
  | 0 => by rw [binom_zero, binom_zero]; exact Nat.le_refl _
  | k + 1 => by rw [binom_ss]; exact Nat.le_add_left _ _
theorem num_lt : ∀ {l : List Nat}, okl l = true → num l < binom l.length (cn l)
  | [], _ => by decide
  | c :: r, h => by
    obtain ⟨hc, hr⟩ := okl_cons h
    have ih := num_lt hr
    rcases hc with rfl | rfl
    · rw [num_p, cn_p]
      exact Nat.lt_of_lt_of_le ih (binom_mono _ _)
    · rw [num_x, cn_x]
      show _ < binom (r.length + 1) (cn r + 1)
      rw [binom_ss]
      omega
def stk : Nat → Nat → Nat → List Nat
  | 0, _, _ => []
  | n + 1, k, a => if a < binom n k then 46 :: stk n k a else 120 :: stk n (k - 1) (a - binom n k)
theorem stk_len : ∀ (n k a : Nat), (stk n k a).length = n
  | 0, _, _ => rfl
  | n + 1, k, a => by
    unfold stk
    split
    · show (stk n k a).length + 1 = _; rw [stk_len]
    · show (stk n (k - 1) (a - binom n k)).length + 1 = _; rw [stk_len]
theorem stk_ok : ∀ (n k a : Nat), okl (stk n k a) = true
  | 0, _, _ => rfl
  | n + 1, k, a => by
    unfold stk
    split
    · show (true && okl (stk n k a)) = true; rw [stk_ok]; rfl
    · show (true && okl (stk n (k - 1) (a - binom n k))) = true; rw [stk_ok]; rfl
/-- the rest of a number behind a notch -/
theorem rest_lt {n k a : Nat} (h : a < binom (n + 1) k) (h2 : ¬ a < binom n k) : ∃ j, k = j + 1 ∧ a - binom n k < binom n j := by
  cases k with
  | zero => rw [binom_zero] at h h2; omega
  | succ j => rw [binom_ss] at h; exact ⟨j, rfl, by omega⟩
theorem stk_num : ∀ {n k a : Nat}, a < binom n k → cn (stk n k a) = k ∧ num (stk n k a) = a
  | 0, 0, a, h => by
    have : a = 0 := by rw [binom_zero] at h; omega
    subst this
    exact ⟨rfl, rfl⟩
  | 0, _ + 1, _, h => absurd h (Nat.not_lt_zero _)
  | n + 1, k, a, h => by
    unfold stk
    split
    · rename_i h2
      obtain ⟨e1, e2⟩ := stk_num h2
      rw [cn_p, num_p]
      exact ⟨e1, e2⟩
    · rename_i h2
      obtain ⟨j, rfl, h3⟩ := rest_lt h h2
      rw [Nat.add_sub_cancel]
      obtain ⟨e1, e2⟩ := stk_num h3
      rw [cn_x, num_x, e1, e2, stk_len]
      exact ⟨rfl, by omega⟩
theorem num_stk : ∀ {l : List Nat}, okl l = true → stk l.length (cn l) (num l) = l
  | [], _ => rfl
  | c :: r, h => by
    obtain ⟨hc, hr⟩ := okl_cons h
    have ih := num_stk hr
    have hl := num_lt hr
    rcases hc with rfl | rfl
    · rw [num_p, cn_p]
      show (if num r < binom r.length (cn r) then _ else _) = _
      rw [if_pos hl, ih]
    · rw [num_x, cn_x]
      show (if binom r.length (cn r + 1) + num r < binom r.length (cn r + 1) then _ else _) = _
      rw [if_neg (by omega), Nat.add_sub_cancel, Nat.add_sub_cancel_left, ih]
/-- two sticks of as many places, notches and the same number are one -/
theorem num_inj {a b : List Nat} (ha : okl a = true) (hb : okl b = true) (h1 : a.length = b.length) (h2 : cn a = cn b) (h3 : num a = num b) : a = b := by
  rw [← num_stk ha, ← num_stk hb, h1, h2, h3]
def tn (c : Nat) : Nat := if c == 46 then 120 else 46
theorem cn_turn : ∀ {l : List Nat}, okl l = true → cn (l.map tn) + cn l = l.length
  | [], _ => rfl
  | c :: r, h => by
    obtain ⟨hc, hr⟩ := okl_cons h
    have ih := cn_turn hr
    rcases hc with rfl | rfl
    · show cn (120 :: r.map tn) + cn (46 :: r) = r.length + 1
      rw [cn_p, cn_x]; omega
    · show cn (46 :: r.map tn) + cn (120 :: r) = r.length + 1
      rw [cn_p, cn_x]; omega
theorem okl_turn (l : List Nat) : okl (l.map tn) = true := by
  unfold okl
  rw [List.all_map]
  refine List.all_eq_true.mpr fun x _ => ?_
  show (tn x == 46 || tn x == 120) = true
  unfold tn
  split <;> rfl
theorem num_turn : ∀ {l : List Nat}, okl l = true → num (l.map tn) + num l + 1 = binom l.length (cn l)
  | [], _ => by decide
  | c :: r, h => by
    obtain ⟨hc, hr⟩ := okl_cons h
    have ih := num_turn hr
    have ht := cn_turn hr
    have hle := cn_le r
    rcases hc with rfl | rfl
    · show num (120 :: r.map tn) + num (46 :: r) + 1 = binom (r.length + 1) (cn (46 :: r))
      rw [num_p, num_x, cn_p, List.length_map]
      cases hk : cn r with
      | zero =>
        rw [hk] at ih ht
        rw [show cn (r.map tn) + 1 = r.length + 1 by omega, binom_gt (show r.length < r.length + 1 by omega), binom_zero]
        rw [binom_zero] at ih
        omega
      | succ k =>
        rw [hk] at ih ht hle
        have e : cn (r.map tn) + 1 = r.length - k := by omega
        rw [e, sym_aux _ (show k ≤ r.length by omega), binom_ss]
        omega
    · show num (46 :: r.map tn) + num (120 :: r) + 1 = binom (r.length + 1) (cn (120 :: r))
      rw [num_p, num_x, cn_x, binom_ss]
      omega
/-- the number as the program adds it up -/
def numL (z : List Nat) : List Nat := ((List.range z.length).filter fun i => decide (z.getD i 0 = 120)).map fun i => binom (z.length - i - 1) (cn (z.drop i))
theorem numL_sum : ∀ z : List Nat, (numL z).sum = num z
  | [] => rfl
  | c :: r => by
    have ih := numL_sum r
    unfold numL at ih ⊢
    rw [List.length_cons, List.range_succ_eq_map, List.filter_cons, List.filter_map]
    have e1 : ((fun i => decide ((c :: r).getD i 0 = 120)) ∘ Nat.succ) = fun i => decide (r.getD i 0 = 120) := by
      funext i
      simp [Function.comp]
    have e2 : ∀ l : List Nat, (List.map (fun i => binom (r.length + 1 - i - 1) (cn ((c :: r).drop i))) (l.map Nat.succ)) = l.map fun i => binom (r.length - i - 1) (cn (r.drop i)) := by
      intro l
      rw [List.map_map]
      refine List.map_congr_left fun i _ => ?_
      show binom (r.length + 1 - (i + 1) - 1) (cn (r.drop i)) = _
      rw [show r.length + 1 - (i + 1) - 1 = r.length - i - 1 by omega]
    rw [e1]
    by_cases h : c = 120
    · rw [if_pos (by simp [h]), List.map_cons, e2, List.sum_cons, ih]
      show binom (r.length + 1 - 0 - 1) (cn (c :: r)) + num r = (if c = 120 then binom r.length (cn (c :: r)) else 0) + num r
      rw [if_pos h]
      rfl
    · rw [if_neg (by simp [h]), e2, ih]
      show num r = (if c = 120 then binom r.length (cn (c :: r)) else 0) + num r
      rw [if_neg h, Nat.zero_add]
/-! all sticks of a length, those of so many notches -/
def all : Nat → List (List Nat)
  | 0 => [[]]
  | n + 1 => (all n).map (46 :: ·) ++ (all n).map (120 :: ·)
theorem all_len : ∀ n, (all n).length = 2 ^ n
  | 0 => rfl
  | n + 1 => by
    show ((all n).map _ ++ (all n).map _).length = _
    rw [List.length_append, List.length_map, List.length_map, all_len n, Nat.pow_succ]
    omega
theorem all_mem : ∀ {n : Nat} {l : List Nat}, l ∈ all n → l.length = n ∧ okl l = true
  | 0, l, h => by
    rw [List.mem_singleton.mp h]
    exact ⟨rfl, rfl⟩
  | n + 1, l, h => by
    rcases List.mem_append.mp h with h | h
    · obtain ⟨r, hr, rfl⟩ := List.mem_map.mp h
      obtain ⟨h1, h2⟩ := all_mem hr
      exact ⟨by simp [h1], by show (true && okl r) = true; rw [h2]; rfl⟩
    · obtain ⟨r, hr, rfl⟩ := List.mem_map.mp h
      obtain ⟨h1, h2⟩ := all_mem hr
      exact ⟨by simp [h1], by show (true && okl r) = true; rw [h2]; rfl⟩
theorem mem_all : ∀ {l : List Nat}, okl l = true → l ∈ all l.length
  | [], _ => List.mem_singleton.mpr rfl
  | c :: r, h => by
    obtain ⟨hc, hr⟩ := okl_cons h
    have ih := mem_all hr
    refine List.mem_append.mpr ?_
    rcases hc with rfl | rfl
    · exact .inl (List.mem_map.mpr ⟨r, ih, rfl⟩)
    · exact .inr (List.mem_map.mpr ⟨r, ih, rfl⟩)
def due (n k : Nat) : List (List Nat) := (all n).filter fun l => cn l == k
theorem due_succ (n k : Nat) : due (n + 1) (k + 1) = (due n (k + 1)).map (46 :: ·) ++ (due n k).map (120 :: ·) := by
  unfold due
  show ((all n).map (46 :: ·) ++ (all n).map (120 :: ·)).filter _ = _
  rw [List.filter_append, List.filter_map, List.filter_map]
  have e1 : (all n).filter ((fun l => cn l == k + 1) ∘ fun x => 46 :: x) = (all n).filter fun l => cn l == k + 1 := by
    refine List.filter_congr fun l _ => ?_
    show (cn (46 :: l) == k + 1) = _
    rw [cn_p]
  have e2 : (all n).filter ((fun l => cn l == k + 1) ∘ fun x => 120 :: x) = (all n).filter fun l => cn l == k := by
    refine List.filter_congr fun l _ => ?_
    show (cn (120 :: l) == k + 1) = _
    rw [cn_x, Bool.eq_iff_iff]
    simp
  rw [e1, e2]
theorem due_zero (n : Nat) : due (n + 1) 0 = (due n 0).map (46 :: ·) := by
  unfold due
  show ((all n).map (46 :: ·) ++ (all n).map (120 :: ·)).filter _ = _
  rw [List.filter_append, List.filter_map, List.filter_map]
  have e : (all n).filter ((fun l => cn l == 0) ∘ fun x => 120 :: x) = [] := by
    refine List.filter_eq_nil_iff.mpr fun l _ => ?_
    show ¬ (cn (120 :: l) == 0) = true
    rw [cn_x]
    simp
  have e1 : (all n).filter ((fun l => cn l == 0) ∘ fun x => 46 :: x) = (all n).filter fun l => cn l == 0 := by
    refine List.filter_congr fun l _ => ?_
    show (cn (46 :: l) == 0) = _
    rw [cn_p]
  rw [e, e1, List.map_nil, List.append_nil]
theorem due_len : ∀ (n k : Nat), (due n k).length = binom n k
  | 0, 0 => rfl
  | 0, k + 1 => rfl
  | n + 1, 0 => by rw [due_zero, List.length_map, due_len, binom_zero, binom_zero]
  | n + 1, k + 1 => by rw [due_succ, List.length_append, List.length_map, List.length_map, due_len, due_len, binom_ss, Nat.add_comm]
theorem due_get : ∀ {n k a : Nat}, a < binom n k → (due n k)[a]? = some (stk n k a)
  | 0, 0, a, h => by
    have : a = 0 := by rw [binom_zero] at h; omega
    subst this
    rfl
  | 0, _ + 1, _, h => absurd h (Nat.not_lt_zero _)
  | n + 1, k, a, h => by
    unfold stk
    split
    · rename_i h2
      have e : (due (n + 1) k)[a]? = ((due n k).map (46 :: ·))[a]? := by
        cases k with
        | zero => rw [due_zero]
        | succ k => rw [due_succ, List.getElem?_append_left (by rw [List.length_map, due_len]; exact h2)]
      rw [e, List.getElem?_map, due_get h2]
      rfl
    · rename_i h2
      obtain ⟨j, rfl, h3⟩ := rest_lt h h2
      rw [due_succ, List.getElem?_append_right (by rw [List.length_map, due_len]; omega), List.length_map, due_len, List.getElem?_map, due_get h3, Nat.add_sub_cancel]
      rfl
end N

/-! N2 -/
set_option autoImplicit false
namespace N
/-! check places -/
def sgb (b : Nat) : Nat := if b = 1 then 120 else 46
def bits (m t : Nat) : List Nat := (List.range t).map fun i => sgb (m / 2 ^ (t - 1 - i) % 2)
theorem bits_len (m t : Nat) : (bits m t).length = t := by simp [bits]
theorem bits_high (m t : Nat) : bits m (t + 1) = sgb (m / 2 ^ t % 2) :: bits m t := by
  unfold bits
  rw [List.range_succ_eq_map, List.map_cons, List.map_map]
  congr 1
  refine List.map_congr_left fun i _ => ?_
  show sgb (m / 2 ^ (t + 1 - 1 - (i + 1)) % 2) = sgb (m / 2 ^ (t - 1 - i) % 2)
  rw [show t + 1 - 1 - (i + 1) = t - 1 - i by omega]
theorem bits_low (m t : Nat) : bits m (t + 1) = bits (m / 2) t ++ [sgb (m % 2)] := by
  unfold bits
  rw [List.range_succ, List.map_append]
  congr 1
  · refine List.map_congr_left fun i hi => ?_
    have hi' : i < t := List.mem_range.mp hi
    rw [show t + 1 - 1 - i = (t - 1 - i) + 1 by omega, Nat.pow_succ, Nat.mul_comm, ← Nat.div_div_eq_div_mul]
  · show [sgb (m / 2 ^ (t + 1 - 1 - t) % 2)] = _
    rw [show t + 1 - 1 - t = 0 by omega, Nat.pow_zero, Nat.div_one]
theorem sgb_ok (b : Nat) : sgb b = 46 ∨ sgb b = 120 := by unfold sgb; split <;> simp
theorem bits_ok (m t : Nat) : okl (bits m t) = true := by
  unfold okl bits
  rw [List.all_map]
  refine List.all_eq_true.mpr fun i _ => ?_
  show (sgb _ == 46 || sgb _ == 120) = true
  rcases sgb_ok (m / 2 ^ (t - 1 - i) % 2) with h | h <;> rw [h] <;> rfl
/-- notches of the one are notches of the other -/
def Wi (a b : List Nat) : Prop := ∀ i : Nat, a[i]? = some 120 → b[i]? = some 120
theorem Wi.tail {x y : Nat} {a b : List Nat} (h : Wi (x :: a) (y :: b)) : Wi a b := fun i e => by
  have := h (i + 1)
  simpa using this (by simpa using e)
theorem Wi.head {x y : Nat} {a b : List Nat} (h : Wi (x :: a) (y :: b)) (e : x = 120) : y = 120 := by
  have := h 0 (by simp [e])
  simpa using this
theorem Wi.left {a b c d : List Nat} (hl : a.length = b.length) (h : Wi (a ++ c) (b ++ d)) : Wi a b := fun i e => by
  have hi : i < a.length := (List.getElem?_eq_some_iff.mp e).1
  have := h i (by rw [List.getElem?_append_left hi]; exact e)
  rw [List.getElem?_append_left (by omega)] at this
  exact this
theorem Wi.right {a b c d : List Nat} (hl : a.length = b.length) (h : Wi (a ++ c) (b ++ d)) : Wi c d := fun i e => by
  have := h (a.length + i) (by rw [List.getElem?_append_right (by omega), Nat.add_sub_cancel_left]; exact e)
  rw [hl, List.getElem?_append_right (by omega), Nat.add_sub_cancel_left] at this
  exact this
theorem bits_mono : ∀ {t m k : Nat}, m < 2 ^ t → k < 2 ^ t → Wi (bits m t) (bits k t) → m ≤ k
  | 0, m, k, hm, _, _ => by rw [Nat.pow_zero] at hm; omega
  | t + 1, m, k, hm, hk, h => by
    rw [bits_low, bits_low] at h
    have hl : (bits (m / 2) t).length = (bits (k / 2) t).length := by rw [bits_len, bits_len]
    rw [Nat.pow_succ] at hm hk
    have h1 := bits_mono (t := t) (m := m / 2) (k := k / 2) (by omega) (by omega) (h.left hl)
    have h2 := h.right hl
    by_cases hb : m % 2 = 1
    · have := h2.head (x := sgb (m % 2)) (y := sgb (k % 2)) (by rw [hb]; rfl)
      have hk1 : k % 2 = 1 := by
        unfold sgb at this
        split at this
        · assumption
        · exact absurd this (by decide)
      omega
    · omega
def pl (l : List Nat) : Nat := l.count 46
theorem pl_p (r : List Nat) : pl (46 :: r) = pl r + 1 := by simp [pl]
theorem pl_x (r : List Nat) : pl (120 :: r) = pl r := by simp [pl]
theorem pl_le (l : List Nat) : pl l ≤ l.length := List.count_le_length
theorem wi_pl : ∀ {a b : List Nat}, okl a = true → okl b = true → a.length = b.length → Wi a b → pl b ≤ pl a ∧ (pl a ≤ pl b → a = b)
  | [], [], _, _, _, _ => ⟨Nat.le_refl _, fun _ => rfl⟩
  | [], _ :: _, _, _, h, _ => by cases h
  | _ :: _, [], _, _, h, _ => by cases h
  | x :: a, y :: b, ha, hb, hl, hw => by
    obtain ⟨hx, ha⟩ := okl_cons ha
    obtain ⟨hy, hb⟩ := okl_cons hb
    have hl' : a.length = b.length := by simpa using hl
    obtain ⟨h1, h2⟩ := wi_pl ha hb hl' hw.tail
    rcases hx with rfl | rfl
    · rcases hy with rfl | rfl
      · rw [pl_p, pl_p]
        exact ⟨by omega, fun h => by rw [h2 (by omega)]⟩
      · rw [pl_p, pl_x]
        exact ⟨by omega, fun h => by omega⟩
    · have := hw.head rfl
      subst this
      rw [pl_x, pl_x]
      exact ⟨h1, fun h => by rw [h2 h]⟩
def csz (n : Nat) : Nat := n.log2 + 1
theorem lt_csz {n m : Nat} (h : m ≤ n) : m < 2 ^ csz n := by
  unfold csz
  exact Nat.lt_of_le_of_lt h Nat.lt_log2_self
def ckl (l : List Nat) : List Nat := l ++ bits (pl l) (csz l.length)
theorem ckl_len (l : List Nat) : (ckl l).length = l.length + csz l.length := by rw [ckl, List.length_append, bits_len]
theorem okl_app {a b : List Nat} (ha : okl a = true) (hb : okl b = true) : okl (a ++ b) = true := by
  unfold okl at *
  rw [List.all_append, ha, hb]
  rfl
theorem ckl_ok {l : List Nat} (h : okl l = true) : okl (ckl l) = true := okl_app h (bits_ok _ _)
/-- no checked stick has all notches of another one of its length -/
theorem ckl_safe {a b : List Nat} (ha : okl a = true) (hb : okl b = true) (hl : a.length = b.length) (h : Wi (ckl a) (ckl b)) : a = b := by
  unfold ckl at h
  rw [← hl] at h
  obtain ⟨h1, h2⟩ := wi_pl ha hb hl (h.left hl)
  have := bits_mono (lt_csz (pl_le a)) (lt_csz (by rw [hl]; exact pl_le b)) (h.right hl)
  exact h2 this
/-- the while's end -/
theorem csz_of {n f : Nat} (hn : 1 ≤ n) (h1 : f = 0 ∨ 2 ^ (f - 1) ≤ n) (h2 : n < 2 ^ f) : f = csz n := by
  have hf : f ≠ 0 := fun e => by rw [e] at h2; simp at h2; omega
  have h1 : 2 ^ (f - 1) ≤ n := h1.resolve_left hf
  unfold csz
  have := (Nat.log2_eq_iff (n := n) (k := f - 1) (by omega)).mpr ⟨h1, by rw [show f - 1 + 1 = f by omega]; exact h2⟩
  omega
/-! all sticks, put together from the left -/
def allE : Nat → List (List Nat)
  | 0 => [[]]
  | n + 1 => (allE n).map (· ++ [46]) ++ (allE n).map (· ++ [120])
theorem allE_len : ∀ n, (allE n).length = 2 ^ n
  | 0 => rfl
  | n + 1 => by
    show ((allE n).map _ ++ (allE n).map _).length = _
    rw [List.length_append, List.length_map, List.length_map, allE_len n, Nat.pow_succ]
    omega
theorem allE_mem : ∀ {n : Nat} {l : List Nat}, l ∈ allE n → l.length = n ∧ okl l = true
  | 0, l, h => by
    rw [List.mem_singleton.mp h]
    exact ⟨rfl, rfl⟩
  | n + 1, l, h => by
    rcases List.mem_append.mp h with h | h
    · obtain ⟨r, hr, rfl⟩ := List.mem_map.mp h
      obtain ⟨h1, h2⟩ := allE_mem hr
      exact ⟨by simp [h1], okl_app h2 rfl⟩
    · obtain ⟨r, hr, rfl⟩ := List.mem_map.mp h
      obtain ⟨h1, h2⟩ := allE_mem hr
      exact ⟨by simp [h1], okl_app h2 rfl⟩
end N

/-! N3 -/
set_option autoImplicit false
namespace N
theorem stk_lt : ∀ {n k a b : Nat}, a < binom n k → b < binom n k → (stk n k a < stk n k b ↔ a < b)
  | 0, k, a, b, ha, hb => by
    have : a = 0 ∧ b = 0 := by
      cases k with
      | zero => rw [binom_zero] at ha hb; omega
      | succ j => rw [binom_gt (by omega)] at ha; omega
    obtain ⟨rfl, rfl⟩ := this
    constructor
    · intro h
      exact absurd h (List.lt_irrefl _)
    · intro h
      omega
  | n + 1, k, a, b, ha, hb => by
    unfold stk
    by_cases h1 : a < binom n k <;> by_cases h2 : b < binom n k
    · rw [if_pos h1, if_pos h2, List.cons_lt_cons_iff]
      have := stk_lt h1 h2
      constructor
      · rintro (h | ⟨_, h⟩)
        · omega
        · exact this.mp h
      · intro h
        exact .inr ⟨rfl, this.mpr h⟩
    · rw [if_pos h1, if_neg h2, List.cons_lt_cons_iff]
      exact ⟨fun _ => by omega, fun _ => .inl (by decide)⟩
    · rw [if_neg h1, if_pos h2, List.cons_lt_cons_iff]
      constructor
      · rintro (h | ⟨h, _⟩) <;> omega
      · intro h
        omega
    · obtain ⟨j, rfl, ha'⟩ := rest_lt ha h1
      obtain ⟨j', e, hb'⟩ := rest_lt hb h2
      have ej : j' = j := by omega
      subst ej
      rw [if_neg h1, if_neg h2, List.cons_lt_cons_iff, Nat.add_sub_cancel]
      have := stk_lt ha' hb'
      constructor
      · rintro (h | ⟨_, h⟩)
        · omega
        · have := this.mp h
          omega
      · intro h
        exact .inr ⟨rfl, this.mpr (by omega)⟩
theorem pl_cn : ∀ {l : List Nat}, okl l = true → pl l + cn l = l.length
  | [], _ => rfl
  | c :: r, h => by
    obtain ⟨hc, hr⟩ := okl_cons h
    have ih := pl_cn hr
    rcases hc with rfl | rfl
    · rw [pl_p, cn_p, List.length_cons]
      omega
    · rw [pl_x, cn_x, List.length_cons]
      omega
theorem wi_eq {a b : List Nat} (ha : okl a = true) (hb : okl b = true) (hl : a.length = b.length) (hc : cn a = cn b) (h : Wi a b) : a = b := by
  have h1 := pl_cn ha
  have h2 := pl_cn hb
  exact (wi_pl ha hb hl h).2 (by omega)
theorem wi_app1 {a b : List Nat} {x y : Nat} (hl : a.length = b.length) (h : Wi a b) (hx : x = 120 → y = 120) : Wi (a ++ [x]) (b ++ [y]) := fun i e => by
  by_cases hi : i < a.length
  · rw [List.getElem?_append_left hi] at e
    rw [List.getElem?_append_left (by omega)]
    exact h i e
  · rw [List.getElem?_append_right (by omega)] at e
    have e0 : i - a.length = 0 := by
      have := (List.getElem?_eq_some_iff.mp e).1
      have e1 : [x].length = 1 := rfl
      omega
    rw [List.getElem?_append_right (by omega), ← hl, e0]
    rw [e0] at e
    have : x = 120 := Option.some.inj e
    rw [hx this]
    rfl
theorem cn_app1 (l : List Nat) (c : Nat) : cn (l ++ [c]) = cn l + if c = 120 then 1 else 0 := by
  unfold cn
  rw [List.count_append]
  by_cases h : c = 120
  · rw [if_pos h, h]
    rfl
  · rw [if_neg h, List.count_singleton, if_neg (by simpa using h)]
structure Ch (n lo : Nat) (c : List (List Nat)) : Prop where
  lo2 : 2 * lo ≤ n
  len : c.length + 2 * lo = n + 1
  at_ : ∀ (i : Nat) (l : List Nat), c[i]? = some l → l.length = n ∧ okl l = true ∧ cn l = lo + i
  wi : ∀ (i : Nat) (l h : List Nat), c[i]? = some l → c[0]? = some h → Wi h l
def lastL (c : List (List Nat)) : List Nat := c.getD (c.length - 1) []
def longC (c : List (List Nat)) : List (List Nat) := c.map (· ++ [46]) ++ [lastL c ++ [120]]
def shortC (c : List (List Nat)) : List (List Nat) := (c.take (c.length - 1)).map (· ++ [120])
def grownC (c : List (List Nat)) : List (List (List Nat)) := if c.length - 1 = 0 then [longC c] else [longC c, shortC c]
def chains : Nat → List (List (List Nat))
  | 0 => [[[46], [120]]]
  | k + 1 => (chains k).flatMap grownC
section
variable {n lo : Nat} {c : List (List Nat)}
theorem Ch.pos (h : Ch n lo c) : 1 ≤ c.length := by have := h.lo2; have := h.len; omega
theorem Ch.last (h : Ch n lo c) : c[c.length - 1]? = some (lastL c) := by
  have := h.pos
  unfold lastL
  rw [List.getD_eq_getElem?_getD, List.getElem?_eq_getElem (by omega)]
  rfl
theorem long_get (h : Ch n lo c) {i : Nat} {l : List Nat} (e : (longC c)[i]? = some l) : ∃ r x, l = r ++ [x] ∧ ((i < c.length ∧ c[i]? = some r ∧ x = 46) ∨ (i = c.length ∧ r = lastL c ∧ x = 120)) := by
  unfold longC at e
  by_cases hi : i < c.length
  · rw [List.getElem?_append_left (by rw [List.length_map]; exact hi), List.getElem?_map, List.getElem?_eq_getElem hi] at e
    exact ⟨c[i], 46, (Option.some.inj e).symm, .inl ⟨hi, List.getElem?_eq_getElem hi, rfl⟩⟩
  · rw [List.getElem?_append_right (by rw [List.length_map]; omega), List.length_map] at e
    have e0 : i - c.length = 0 := by
      have := (List.getElem?_eq_some_iff.mp e).1
      have e1 : [lastL c ++ [120]].length = 1 := rfl
      omega
    rw [e0] at e
    exact ⟨lastL c, 120, (Option.some.inj e).symm, .inr ⟨by omega, rfl, rfl⟩⟩
theorem okl_app1 {l : List Nat} {x : Nat} (h : okl l = true) (hx : x = 46 ∨ x = 120) : okl (l ++ [x]) = true := okl_app h (by rcases hx with rfl | rfl <;> rfl)
theorem long_ch (h : Ch n lo c) : Ch (n + 1) lo (longC c) := by
  have p := h.pos
  have h2 := h.lo2
  have h3 := h.len
  refine ⟨by omega, ?_, ?_, ?_⟩
  · unfold longC
    rw [List.length_append, List.length_map]
    show c.length + 1 + 2 * lo = _
    omega
  · intro i l e
    obtain ⟨r, x, rfl, he⟩ := long_get h e
    rw [List.length_append, cn_app1]
    rcases he with ⟨hi, he, rfl⟩ | ⟨rfl, rfl, rfl⟩
    · obtain ⟨q1, q2, q3⟩ := h.at_ _ _ he
      refine ⟨by rw [q1]; rfl, okl_app1 q2 (.inl rfl), ?_⟩
      rw [q3, if_neg (by decide)]
      rfl
    · obtain ⟨q1, q2, q3⟩ := h.at_ _ _ h.last
      refine ⟨by rw [q1]; rfl, okl_app1 q2 (.inr rfl), ?_⟩
      rw [q3, if_pos rfl]
      omega
  · intro i l f e0 e1
    obtain ⟨r, x, rfl, he⟩ := long_get h e0
    obtain ⟨s, y, rfl, hf⟩ := long_get h e1
    rcases hf with ⟨_, hf, rfl⟩ | ⟨hf, _⟩
    · have ls := (h.at_ _ _ hf).1
      rcases he with ⟨hi, he, rfl⟩ | ⟨rfl, rfl, rfl⟩
      · exact wi_app1 (by rw [ls, (h.at_ _ _ he).1]) (h.wi _ _ _ he hf) (fun z => z)
      · exact wi_app1 (by rw [ls, (h.at_ _ _ h.last).1]) (h.wi _ _ _ h.last hf) (fun z => absurd z (by decide))
    · omega
theorem short_get {i : Nat} {l : List Nat} (e : (shortC c)[i]? = some l) : ∃ r, l = r ++ [120] ∧ c[i]? = some r ∧ i < c.length - 1 := by
  unfold shortC at e
  rw [List.getElem?_map] at e
  cases q : (c.take (c.length - 1))[i]? with
  | none => rw [q] at e; cases e
  | some r =>
    rw [q] at e
    have hi := (List.getElem?_eq_some_iff.mp q).1
    rw [List.length_take] at hi
    rw [List.getElem?_take_of_lt (by omega)] at q
    exact ⟨r, (Option.some.inj e).symm, q, by omega⟩
theorem short_ch (h : Ch n lo c) (hs : ¬ c.length - 1 = 0) : Ch (n + 1) (lo + 1) (shortC c) := by
  have p := h.pos
  have h2 := h.lo2
  have h3 := h.len
  refine ⟨by omega, ?_, ?_, ?_⟩
  · unfold shortC
    rw [List.length_map, List.length_take]
    omega
  · intro i l e
    obtain ⟨r, rfl, he, _⟩ := short_get e
    obtain ⟨q1, q2, q3⟩ := h.at_ _ _ he
    rw [List.length_append, cn_app1, if_pos rfl]
    exact ⟨by rw [q1]; rfl, okl_app1 q2 (.inr rfl), by omega⟩
  · intro i l f e0 e1
    obtain ⟨r, rfl, he, _⟩ := short_get e0
    obtain ⟨s, rfl, hf, _⟩ := short_get e1
    exact wi_app1 (by rw [(h.at_ _ _ he).1, (h.at_ _ _ hf).1]) (h.wi _ _ _ he hf) (fun z => z)
end
theorem chains_ch : ∀ (k : Nat), ∀ c ∈ chains k, ∃ lo, Ch (k + 1) lo c
  | 0, c, h => by
    rw [List.mem_singleton.mp h]
    refine ⟨0, by omega, rfl, ?_, ?_⟩
    · intro i l e
      match i, e with
      | 0, e => cases e; exact ⟨rfl, rfl, rfl⟩
      | 1, e => cases e; exact ⟨rfl, rfl, rfl⟩
    · intro i l f e0 e1
      cases e1
      match i, e0 with
      | 0, e => cases e; exact fun _ z => z
      | 1, e =>
        cases e
        intro j z
        match j, z with
        | 0, z => cases z
  | k + 1, c, h => by
    obtain ⟨d, hd, hc⟩ := List.mem_flatMap.mp h
    obtain ⟨lo, hC⟩ := chains_ch k d hd
    unfold grownC at hc
    by_cases hs : d.length - 1 = 0
    · rw [if_pos hs, List.mem_singleton] at hc
      rw [hc]
      exact ⟨lo, long_ch hC⟩
    · rw [if_neg hs] at hc
      rcases List.mem_cons.mp hc with e | e
      · rw [e]
        exact ⟨lo, long_ch hC⟩
      · rw [List.mem_singleton.mp e]
        exact ⟨lo + 1, short_ch hC hs⟩
theorem chains_len : ∀ k < 8, (chains k).length ≤ 100 := by decide +kernel
theorem mid_one (m : Nat) : ∀ {c : List (List Nat)} {lo : Nat}, (∀ (i : Nat) (l : List Nat), c[i]? = some l → cn l = lo + i) → (c.filter fun l => decide (cn l = m)).length = if lo ≤ m ∧ m < lo + c.length then 1 else 0
  | [], lo, _ => by
    rw [if_neg (by have : ([] : List (List Nat)).length = 0 := rfl; omega)]
    rfl
  | l :: c, lo, h => by
    have h0 := h 0 l rfl
    have ih := mid_one m (c := c) (lo := lo + 1) fun i r e => by
      have := h (i + 1) r (by simpa using e)
      omega
    rw [List.filter_cons]
    have el : (l :: c).length = c.length + 1 := rfl
    by_cases hm : cn l = m
    · rw [if_pos (by simpa using hm), List.length_cons, ih, if_neg (by omega), if_pos (by omega)]
    · rw [if_neg (by simpa using hm), ih]
      by_cases h1 : lo + 1 ≤ m ∧ m < lo + 1 + c.length
      · rw [if_pos h1, if_pos (by omega)]
      · rw [if_neg h1, if_neg (by omega)]
theorem Ch.mid {n lo : Nat} {c : List (List Nat)} (h : Ch n lo c) : (c.filter fun l => decide (cn l = n / 2)).length = 1 := by
  have h2 := h.lo2
  have h3 := h.len
  rw [mid_one (n / 2) fun i l e => (h.at_ i l e).2.2, if_pos (by omega)]
theorem sum_two : ∀ n < 8, ((List.range (n + 1)).map (binom n)).sum = 2 ^ n := by decide +kernel
theorem mid_max : ∀ n < 8, binom n (n / 2) ∈ (List.range (n + 1)).map (binom n) ∧ ∀ y ∈ (List.range (n + 1)).map (binom n), y ≤ binom n (n / 2) := by decide +kernel
end N

/-! N4 -/
namespace N
/-! ### rules of checks by numbers -/
def ck (cks : List (List Nat)) (i : Nat) : List Nat := cks.getD (i % cks.length) []
def Uns (cks : List (List Nat)) (mo : Option Nat) (i d : Nat) : Prop := 1 ≤ d ∧ d ≤ i ∧ Wi (ck cks i) (ck cks (i - d)) ∧ ∀ k, mo = some k → d + (cn (ck cks (i - d)) - cn (ck cks i)) ≤ k
def pos (m d r : Nat) : Nat := d + (((r : Int) - (d : Int)) % (m : Int)).toNat
theorem rest_lt' {m : Nat} (hm : 1 ≤ m) (r d : Nat) : 0 ≤ ((r : Int) - d) % m ∧ ((r : Int) - d) % m < m := ⟨Int.emod_nonneg _ (by omega), Int.emod_lt_of_pos _ (by omega)⟩
theorem pos_ge (m d r : Nat) : d ≤ pos m d r := Nat.le_add_right _ _
theorem pos_lt {m : Nat} (hm : 1 ≤ m) (d r : Nat) : pos m d r < d + m := by
  have := rest_lt' hm r d
  unfold pos
  omega
theorem pos_int {m : Nat} (hm : 1 ≤ m) (d r : Nat) : ((pos m d r : Nat) : Int) = (d : Int) + ((r : Int) - d) % m := by
  have := rest_lt' hm r d
  unfold pos
  omega
theorem pos_mod {m : Nat} (hm : 1 ≤ m) {d r : Nat} (hr : r < m) : pos m d r % m = r := by
  have h1 := pos_int hm d r
  have h2 : ((pos m d r % m : Nat) : Int) = (r : Int) := by
    rw [Int.natCast_emod, h1, Int.add_emod_emod, show (d : Int) + ((r : Int) - d) = r by omega]
    exact Int.emod_eq_of_lt (by omega) (by omega)
  omega
theorem pos_sub {m : Nat} (hm : 1 ≤ m) (d r : Nat) : (pos m d r - d) % m = (((r : Int) - d) % m).toNat := by
  have := rest_lt' hm r d
  unfold pos
  rw [Nat.add_sub_cancel_left, Nat.mod_eq_of_lt (by omega)]
theorem rest_sub {m : Nat} (hm : 1 ≤ m) {i d : Nat} (h : d ≤ i) : ((((i % m : Nat) : Int) - d) % m).toNat = (i - d) % m := by
  have e : (((i % m : Nat) : Int) - d) % m = (((i - d) % m : Nat) : Int) := by
    rw [Int.natCast_emod, Int.natCast_emod, Int.natCast_sub h, Int.emod_sub_emod]
  rw [e, Int.toNat_natCast]
theorem pos_le {m : Nat} (hm : 1 ≤ m) {i d : Nat} (h : d ≤ i) : pos m d (i % m) ≤ i := by
  unfold pos
  rw [rest_sub hm h]
  have := Nat.mod_le (i - d) m
  omega
theorem uns_pos {cks : List (List Nat)} {mo : Option Nat} {i d : Nat} (hm : 1 ≤ cks.length) (h : Uns cks mo i d) : Uns cks mo (pos cks.length d (i % cks.length)) d := by
  obtain ⟨h1, h2, h3, h4⟩ := h
  have e1 : ck cks (pos cks.length d (i % cks.length)) = ck cks i := by
    unfold ck
    rw [pos_mod hm (Nat.mod_lt _ hm)]
  have e2 : ck cks (pos cks.length d (i % cks.length) - d) = ck cks (i - d) := by
    unfold ck
    rw [pos_sub hm, rest_sub hm h2]
  refine ⟨h1, pos_ge .., ?_, ?_⟩
  · rw [e1, e2]; exact h3
  · rw [e1, e2]; exact h4
theorem uns_m {cks : List (List Nat)} {mo : Option Nat} {i : Nat} (hm : 1 ≤ cks.length) (hi : cks.length ≤ i) (hk : ∀ k, mo = some k → cks.length ≤ k) : Uns cks mo i cks.length := by
  have e : ck cks (i - cks.length) = ck cks i := by
    unfold ck
    rw [← Nat.mod_eq_sub_mod hi]
  refine ⟨hm, hi, ?_, fun k hk' => ?_⟩
  · rw [e]; exact fun _ h => h
  · have := hk k hk'
    rw [e]
    omega
theorem uns_small {cks : List (List Nat)} {mo : Option Nat} {i d : Nat} (hm : 1 ≤ cks.length) (h : Uns cks mo i d) : ∃ d', d' ≤ cks.length ∧ Uns cks mo i d' := by
  by_cases hd : d ≤ cks.length
  · exact ⟨d, hd, h⟩
  · refine ⟨cks.length, Nat.le_refl _, uns_m hm (by have := h.2.1; omega) fun k hk => ?_⟩
    have := h.2.2.2 k hk
    omega
def IsStep (cks : List (List Nat)) (mo : Option Nat) (p a : Nat) : Prop := Uns cks mo p a ∧ ∀ i d, Uns cks mo i d → p ≤ i
theorem steps_all {cks : List (List Nat)} {mo : Option Nat} {ps : List (Int × Int)} {g : Nat} (hm : 1 ≤ cks.length) (hg : ∀ d, d ≤ cks.length → (∀ k, mo = some k → d ≤ k) → d ≤ g)
    (hc : ∀ a, 1 ≤ a → a ≤ g → ∀ r, r < cks.length → Uns cks mo (pos cks.length a r) a → (((pos cks.length a r : Nat) : Int), (a : Int)) ∈ ps) {i d : Nat} (h : Uns cks mo i d) : ∃ q ∈ ps, q.1 ≤ (i : Int) := by
  obtain ⟨d', hd', h'⟩ := uns_small hm h
  refine ⟨_, hc d' h'.1 (hg d' hd' fun k hk => ?_) (i % cks.length) (Nat.mod_lt _ hm) (uns_pos hm h'), ?_⟩
  · have := h'.2.2.2 k hk
    omega
  · have := pos_le (m := cks.length) hm h'.2.1
    show ((pos cks.length d' (i % cks.length) : Nat) : Int) ≤ i
    omega
/-- the places in which two differ -/
def df (a b : List Nat) : List Nat := (List.range a.length).filter fun i => decide (a[i]? ≠ b[i]?)
theorem df_cons (x y : Nat) (a b : List Nat) : (df (x :: a) (y :: b)).length = (if x = y then 0 else 1) + (df a b).length := by
  unfold df
  rw [List.length_cons, List.range_succ_eq_map, List.filter_cons, List.filter_map]
  have e : (List.range a.length).filter ((fun i => decide ((x :: a)[i]? ≠ (y :: b)[i]?)) ∘ Nat.succ) = (List.range a.length).filter fun i => decide (a[i]? ≠ b[i]?) := List.filter_congr fun i _ => by simp
  by_cases h : x = y
  · rw [if_neg (by simp [h]), if_pos h, List.length_map, e]
    omega
  · rw [if_pos (by simp [h]), if_neg h, List.length_cons, List.length_map, e]
    omega
theorem df_len : ∀ {a b : List Nat}, okl a = true → okl b = true → a.length = b.length → Wi a b → (df a b).length + cn a = cn b
  | [], [], _, _, _, _ => rfl
  | [], y :: b, _, _, h, _ => by simp at h
  | x :: a, [], _, _, h, _ => by simp at h
  | x :: a, y :: b, ha, hb, hl, hw => by
    obtain ⟨hx, ha'⟩ := okl_cons ha
    obtain ⟨hy, hb'⟩ := okl_cons hb
    have ih := df_len ha' hb' (by simpa using hl) hw.tail
    rw [df_cons]
    rcases hx with rfl | rfl <;> rcases hy with rfl | rfl
    · rw [cn_p, cn_p, if_pos rfl]; omega
    · rw [cn_p, cn_x, if_neg (by decide)]; omega
    · exact absurd (hw.head rfl) (by decide)
    · rw [cn_x, cn_x, if_pos rfl]; omega
theorem wi_cn {a b : List Nat} (ha : okl a = true) (hb : okl b = true) (hl : a.length = b.length) (hw : Wi a b) : cn a ≤ cn b := by
  have := df_len ha hb hl hw
  omega
end N

/-! L3a -/
set_option maxHeartbeats 4000000
namespace L3
open PySem L2

/-- data, without a heap -/
inductive D where
  | raw (v : V)
  | tup (xs : List D)
  | lst (xs : List D)
  | ro (xs : List D)
  | obj (C : Addr) (ns : List Str) (xs : List D)
  | exc (a dx : Addr) (ns : List Str) (xs : List D)
abbrev D.int (i : Int) : D := .raw (.int i)
abbrev D.str (s : Str) : D := .raw (.str s)
abbrev D.bl (b : Bool) : D := .raw (.bl b)
abbrev D.non : D := .raw .non

mutual
inductive Rep (K : PySem.W.Frag) (G : Hp) : V → D → Prop
  | raw (v : V) : Rep K G v (.raw v)
  | tup {p : Addr} {vs : List V} {ds : List D} : SqT K G p vs → Reps K G vs ds → Rep K G (.ref p) (.tup ds)
  | lst {p : Addr} {vs : List V} {ds : List D} : G p = some (.lst vs) → Reps K G vs ds → Rep K G (.ref p) (.lst ds)
  | ro {p : Addr} {vs : List V} {ds : List D} : SqL K G p vs → Reps K G vs ds → Rep K G (.ref p) (.ro ds)
  | obj {p C dx : Addr} {fs : List (Str × V)} {ns : List Str} {ds : List D} : G p = some (.ins C dx fs) → fs.map (·.1) = ns → Reps K G (fs.map (·.2)) ds → Rep K G (.ref p) (.obj C ns ds)
  | exc {a dx : Addr} {fs : List (Str × V)} {ns : List Str} {ds : List D} : G dx = some (.xd fs) → fs.map (·.1) = ns → Reps K G (fs.map (·.2)) ds → Rep K G (.ref a) (.exc a dx ns ds)
inductive Reps (K : PySem.W.Frag) (G : Hp) : List V → List D → Prop
  | nil : Reps K G [] []
  | cons {v : V} {vs : List V} {d : D} {ds : List D} : Rep K G v d → Reps K G vs ds → Reps K G (v :: vs) (d :: ds)
end
theorem seqT {K : PySem.W.Frag} {H H' : Hp} {a : Addr} {xs : List V} (e : Same H H') (h : SqT K H a xs) : SqT K H' a xs := by
  rcases h with (h | ⟨o, h⟩) | h
  · exact .inl (.inl (e _ _ h))
  · exact .inl (.inr ⟨o, e _ _ h⟩)
  · exact .inr h
mutual
theorem Rep.mono {K : PySem.W.Frag} {G G' : Hp} (e : Same G G') : ∀ {v : V} {d : D}, Rep K G v d → Rep K G' v d
  | _, _, .raw v => .raw v
  | _, _, .tup h hs => .tup (seqT e h) (Reps.mono e hs)
  | _, _, .lst h hs => .lst (e _ _ h) (Reps.mono e hs)
  | _, _, .ro h hs => .ro (e.seq h) (Reps.mono e hs)
  | _, _, .obj h hn hs => .obj (e _ _ h) hn (Reps.mono e hs)
  | _, _, .exc h hn hs => .exc (e _ _ h) hn (Reps.mono e hs)
theorem Reps.mono {K : PySem.W.Frag} {G G' : Hp} (e : Same G G') : ∀ {vs : List V} {ds : List D}, Reps K G vs ds → Reps K G' vs ds
  | _, _, .nil => .nil
  | _, _, .cons h hs => .cons (Rep.mono e h) (Reps.mono e hs)
end
section
variable {K : PySem.W.Frag} {G G' H H' : Hp} {v w : V} {vs ws : List V} {d : D} {ds es : List D}
theorem Rep.raw_inv (h : Rep K G v (.raw w)) : v = w := by cases h; rfl
theorem Rep.tup_inv (h : Rep K G v (.tup ds)) : ∃ p vs, v = .ref p ∧ SqT K G p vs ∧ Reps K G vs ds := by
  cases h with
  | tup a b => exact ⟨_, _, rfl, a, b⟩
theorem Rep.lst_get (h : Rep K G v (.lst ds)) : ∃ p vs, v = .ref p ∧ G p = some (.lst vs) ∧ Reps K G vs ds := by
  cases h with
  | lst a b => exact ⟨_, _, rfl, a, b⟩
theorem Rep.lst_inv (h : Rep K G v (.lst ds)) : ∃ p vs, v = .ref p ∧ SqL K G p vs ∧ Reps K G vs ds := by
  obtain ⟨p, vs, a, b, c⟩ := h.lst_get
  exact ⟨p, vs, a, .inl (.inl b), c⟩
theorem Rep.ro_inv (h : Rep K G v (.ro ds)) : ∃ p vs, v = .ref p ∧ SqL K G p vs ∧ Reps K G vs ds := by
  cases h with
  | ro a b => exact ⟨_, _, rfl, a, b⟩
theorem Rep.obj_inv {C : Addr} {ns : List Str} (h : Rep K G v (.obj C ns ds)) : ∃ p dx fs, v = .ref p ∧ G p = some (.ins C dx fs) ∧ fs.map (·.1) = ns ∧ Reps K G (fs.map (·.2)) ds := by
  cases h with
  | obj a b c => exact ⟨_, _, _, rfl, a, b, c⟩
theorem Rep.exc_inv {a dx : Addr} {ns : List Str} (h : Rep K G v (.exc a dx ns ds)) : ∃ fs, v = .ref a ∧ G dx = some (.xd fs) ∧ fs.map (·.1) = ns ∧ Reps K G (fs.map (·.2)) ds := by
  cases h with
  | exc a b c => exact ⟨_, rfl, a, b, c⟩
theorem Reps.length : ∀ {vs : List V} {ds : List D}, Reps K G vs ds → vs.length = ds.length
  | _, _, .nil => rfl
  | _, _, .cons _ t => congrArg (· + 1) (Reps.length t)
theorem Reps.append : ∀ {vs ws : List V} {ds es : List D}, Reps K G vs ds → Reps K G ws es → Reps K G (vs ++ ws) (ds ++ es)
  | _, _, _, _, .nil, s => s
  | _, _, _, _, .cons r t, s => .cons r (Reps.append t s)
theorem Reps.get : ∀ {vs : List V} {ds : List D} {i : Nat} {d : D}, Reps K G vs ds → ds[i]? = some d → ∃ v, vs[i]? = some v ∧ Rep K G v d
  | _, _, _, _, .nil, e => by simp at e
  | _, _, 0, _, .cons r _, e => by simp at e; subst e; exact ⟨_, rfl, r⟩
  | _, _, i + 1, _, .cons _ t, e => by
    obtain ⟨u, h1, h2⟩ := Reps.get (i := i) t (by simpa using e)
    exact ⟨u, by simpa using h1, h2⟩
theorem Reps.getV : ∀ {vs : List V} {ds : List D} {i : Nat} {v : V}, Reps K G vs ds → vs[i]? = some v → ∃ d, ds[i]? = some d ∧ Rep K G v d
  | _, _, _, _, .nil, e => by simp at e
  | _, _, 0, _, .cons r _, e => by simp at e; subst e; exact ⟨_, rfl, r⟩
  | _, _, i + 1, _, .cons _ t, e => by
    obtain ⟨u, h1, h2⟩ := Reps.getV (i := i) t (by simpa using e)
    exact ⟨u, by simpa using h1, h2⟩
theorem Reps.take (n : Nat) : ∀ {vs : List V} {ds : List D}, Reps K G vs ds → Reps K G (vs.take n) (ds.take n) := by
  induction n with
  | zero => intro vs ds _; exact .nil
  | succ n ih =>
    intro vs ds h
    cases h with
    | nil => exact .nil
    | cons r t => exact .cons r (ih t)
theorem Reps.drop (n : Nat) : ∀ {vs : List V} {ds : List D}, Reps K G vs ds → Reps K G (vs.drop n) (ds.drop n) := by
  induction n with
  | zero => intro vs ds h; exact h
  | succ n ih =>
    intro vs ds h
    cases h with
    | nil => exact .nil
    | cons r t => exact ih t
theorem Reps.reverse : ∀ {vs : List V} {ds : List D}, Reps K G vs ds → Reps K G vs.reverse ds.reverse
  | _, _, .nil => .nil
  | _, _, .cons r t => by
    rw [List.reverse_cons, List.reverse_cons]
    exact Reps.append (Reps.reverse t) (.cons r .nil)
theorem Reps.set {v : V} {d : D} (r : Rep K G v d) : ∀ {vs : List V} {ds : List D} (i : Nat), Reps K G vs ds → Reps K G (vs.set i v) (ds.set i d)
  | _, _, _, .nil => .nil
  | _, _, 0, .cons _ t => .cons r t
  | _, _, i + 1, .cons q t => .cons q (Reps.set r i t)
theorem Reps.eraseIdx : ∀ {vs : List V} {ds : List D} (i : Nat), Reps K G vs ds → Reps K G (vs.eraseIdx i) (ds.eraseIdx i)
  | _, _, _, .nil => .nil
  | _, _, 0, .cons _ t => t
  | _, _, i + 1, .cons q t => .cons q (Reps.eraseIdx i t)
theorem Reps.raws : ∀ {vs ws : List V}, Reps K G vs (ws.map D.raw) → vs = ws
  | _, [], h => by cases h; rfl
  | _, w :: ws, h => by
    cases h with
    | cons r t => rw [r.raw_inv, Reps.raws t]
theorem Reps.of_raws : ∀ (ws : List V), Reps K G ws (ws.map D.raw)
  | [] => .nil
  | w :: ws => .cons (.raw w) (Reps.of_raws ws)
end

/-! ### what is owned: objects that may change -/
inductive CO where
  | gone
  | lst (ds : List D)
  | dct (kds : List (Key × D))
  | ins (C : Addr) (ns : List Str) (ds : List D)
abbrev Cells := List (Addr × CO)
def CellOk (K : PySem.W.Frag) (G H : Hp) (p : Addr) : CO → Prop
  | .gone => True
  | .lst ds => G p = none ∧ ∃ vs, H p = some (.lst vs) ∧ Reps K G vs ds
  | .dct kds => G p = none ∧ ∃ kvs, H p = some (.dK kvs) ∧ kvs.map (·.1) = kds.map (·.1) ∧ Reps K G (kvs.map (·.2)) (kds.map (·.2))
  | .ins C ns ds => G p = none ∧ ∃ dx fs, H p = some (.ins C dx fs) ∧ fs.map (·.1) = ns ∧ Reps K G (fs.map (·.2)) ds
structure Own (K : PySem.W.Frag) (G H : Hp) (cs : Cells) : Prop where
  same : Same G H
  cell : ∀ (i : Nat) (p : Addr) (co : CO), cs[i]? = some (p, co) → CellOk K G H p co
  inj : ∀ (i j : Nat) (p : Addr) (co co' : CO), cs[i]? = some (p, co) → cs[j]? = some (p, co') → i = j
  there : ∀ (i : Nat) (p : Addr) (co : CO), cs[i]? = some (p, co) → ∃ o, H p = some o
section
variable {K : PySem.W.Frag} {G G' H H' : Hp} {p q : Addr} {o : HO} {co : CO} {cs : Cells} {i : Nat}
theorem same_new {H : Hp} {p : Addr} {o : HO} (h : H p = none) : Same H (upd H p o) := fun a u e => by
  rw [upd_ne (ne_of_none e h)]
  exact e
/-- another heap in which this cell stands the same -/
theorem CellOk.to (h : CellOk K G H p co) (e : Same G G') (n : G p = none → G' p = none) (k : H' p = H p) : CellOk K G' H' p co := by
  cases co with
  | gone => trivial
  | lst ds =>
    obtain ⟨a, vs, b, c⟩ := h
    exact ⟨n a, vs, by rw [k]; exact b, c.mono e⟩
  | dct kds =>
    obtain ⟨a, vs, b, c, d⟩ := h
    exact ⟨n a, vs, by rw [k]; exact b, c, d.mono e⟩
  | ins C ns ds =>
    obtain ⟨a, dx, fs, b, c, d⟩ := h
    exact ⟨n a, dx, fs, by rw [k]; exact b, c, d.mono e⟩
theorem Own.ne (I : Own K G H cs) (e : cs[i]? = some (q, co)) (n : H p = none) : q ≠ p := by
  obtain ⟨o, h⟩ := I.there i q co e
  exact ne_of_none h n
/-- a new object, from now on as it is -/
theorem Own.fresh (I : Own K G H cs) (n : H p = none) : Own K (upd G p o) (upd H p o) cs where
  same := fun a u e => by
    by_cases h : a = p
    · subst h
      rw [upd_same] at e ⊢
      exact e
    · rw [upd_ne h] at e ⊢
      exact I.same a u e
  cell := fun i q co e => (I.cell i q co e).to (same_new (I.same.free n)) (fun z => by rw [upd_ne (I.ne e n)]; exact z) (upd_ne (I.ne e n))
  inj := I.inj
  there := fun i q co e => by
    obtain ⟨u, h⟩ := I.there i q co e
    exact ⟨u, by rw [upd_ne (I.ne e n)]; exact h⟩
/-- a heap that has grown beside the cells -/
theorem Own.grown (I : Own K G H cs) (e : Same H H') : Own K G H' cs where
  same := I.same.trans e
  cell := fun i q co h => by
    obtain ⟨u, hu⟩ := I.there i q co h
    exact (I.cell i q co h).to (Same.refl G) (fun z => z) ((e _ _ hu).trans hu.symm)
  inj := I.inj
  there := fun i q co h => by
    obtain ⟨u, hu⟩ := I.there i q co h
    exact ⟨u, e _ _ hu⟩
theorem Own.nil (H : Hp) (G : Hp) (e : Same G H) : Own K G H [] := ⟨e, fun i _ _ h => by simp at h, fun i _ _ _ _ h => by simp at h, fun i _ _ h => by simp at h⟩
/-- a new object that is owned: a cell at the end -/
theorem Own.snoc (I : Own K G H cs) (n : H p = none) (ok : CellOk K G (upd H p o) p co) : Own K G (upd H p o) (cs ++ [(p, co)]) := by
  have key : ∀ {i : Nat} {q : Addr} {c : CO}, (cs ++ [(p, co)])[i]? = some (q, c) → (cs[i]? = some (q, c) ∧ q ≠ p ∧ i < cs.length) ∨ (i = cs.length ∧ q = p ∧ c = co) := by
    intro i q c h
    by_cases hi : i < cs.length
    · rw [List.getElem?_append_left hi] at h
      exact .inl ⟨h, I.ne h n, hi⟩
    · rw [List.getElem?_append_right (by omega)] at h
      have hz : i - cs.length = 0 := by
        cases hx : i - cs.length with
        | zero => rfl
        | succ k =>
          rw [hx] at h
          simp at h
      rw [hz] at h
      simp at h
      exact .inr ⟨by omega, h.1.symm, h.2.symm⟩
  refine ⟨I.same.trans (same_new n), fun i q c h => ?_, fun i j q c c' h h' => ?_, fun i q c h => ?_⟩
  · rcases key h with ⟨a, b, _⟩ | ⟨_, rfl, rfl⟩
    · exact (I.cell i q c a).to (Same.refl G) (fun z => z) (upd_ne b)
    · exact ok
  · rcases key h with ⟨a, b, l⟩ | ⟨a, b, _⟩
    · rcases key h' with ⟨a', _, _⟩ | ⟨_, b', _⟩
      · exact I.inj i j q c c' a a'
      · exact absurd b' b
    · rcases key h' with ⟨_, b', _⟩ | ⟨a', _, _⟩
      · exact absurd b b'
      · omega
  · rcases key h with ⟨a, b, _⟩ | ⟨_, rfl, _⟩
    · obtain ⟨u, hu⟩ := I.there i q c a
      exact ⟨u, by rw [upd_ne b]; exact hu⟩
    · exact ⟨o, upd_same⟩
/-- a cell is written -/
theorem Own.put (I : Own K G H cs) (e : cs[i]? = some (p, co)) (gn : G p = none) {co' : CO} (ok : CellOk K G (upd H p o) p co') : Own K G (upd H p o) (cs.set i (p, co')) := by
  have hlt : i < cs.length := (List.getElem?_eq_some_iff.mp e).1
  have key : ∀ {j : Nat} {q : Addr} {c : CO}, (cs.set i (p, co'))[j]? = some (q, c) → (j ≠ i ∧ cs[j]? = some (q, c) ∧ q ≠ p) ∨ (j = i ∧ q = p ∧ c = co') := by
    intro j q c h
    by_cases hj : j = i
    · subst hj
      rw [List.getElem?_set_self hlt] at h
      simp at h
      exact .inr ⟨rfl, h.1.symm, h.2.symm⟩
    · rw [List.getElem?_set_ne (Ne.symm hj)] at h
      refine .inl ⟨hj, h, fun z => hj ?_⟩
      subst z
      exact I.inj j i q c co h e
  refine ⟨fun a u h => by rw [upd_ne (ne_of_none h gn)]; exact I.same a u h, fun j q c h => ?_, fun j k q c c' h h' => ?_, fun j q c h => ?_⟩
  · rcases key h with ⟨_, a, b⟩ | ⟨_, rfl, rfl⟩
    · exact (I.cell j q c a).to (Same.refl G) (fun z => z) (upd_ne b)
    · exact ok
  · rcases key h with ⟨_, a, b⟩ | ⟨a, b, _⟩
    · rcases key h' with ⟨_, a', _⟩ | ⟨_, b', _⟩
      · exact I.inj j k q c c' a a'
      · exact absurd b' b
    · rcases key h' with ⟨_, _, b'⟩ | ⟨a', _, _⟩
      · exact absurd b b'
      · omega
  · rcases key h with ⟨_, a, b⟩ | ⟨_, rfl, _⟩
    · obtain ⟨u, hu⟩ := I.there j q c a
      exact ⟨u, by rw [upd_ne b]; exact hu⟩
    · exact ⟨o, upd_same⟩
theorem Own.take (I : Own K G H cs) (n : Nat) : Own K G H (cs.take n) := by
  have key : ∀ {j : Nat} {x : Addr × CO}, (cs.take n)[j]? = some x → cs[j]? = some x := by
    intro j x h
    rw [List.getElem?_take] at h
    split at h
    · exact h
    · cases h
  exact ⟨I.same, fun i p co h => I.cell i p co (key h), fun i j p co co' h h' => I.inj i j p co co' (key h) (key h'), fun i p co h => I.there i p co (key h)⟩
/-- a cell is no longer to change -/
theorem Own.share (I : Own K G H cs) (e : cs[i]? = some (p, co)) (hp : H p = some o) (gn : G p = none) : Own K (upd G p o) H (cs.set i (p, .gone)) ∧ Same G (upd G p o) := by
  have hlt : i < cs.length := (List.getElem?_eq_some_iff.mp e).1
  have key : ∀ {j : Nat} {q : Addr} {c : CO}, (cs.set i (p, .gone))[j]? = some (q, c) → (j ≠ i ∧ cs[j]? = some (q, c) ∧ q ≠ p) ∨ (j = i ∧ q = p ∧ c = .gone) := by
    intro j q c h
    by_cases hj : j = i
    · subst hj
      rw [List.getElem?_set_self hlt] at h
      simp at h
      exact .inr ⟨rfl, h.1.symm, h.2.symm⟩
    · rw [List.getElem?_set_ne (Ne.symm hj)] at h
      refine .inl ⟨hj, h, fun z => hj ?_⟩
      subst z
      exact I.inj j i q c co h e
  refine ⟨⟨fun a u h => ?_, fun j q c h => ?_, fun j k q c c' h h' => ?_, fun j q c h => ?_⟩, same_new gn⟩
  · by_cases hb : a = p
    · subst hb
      rw [upd_same] at h
      rw [← h]
      exact hp
    · rw [upd_ne hb] at h
      exact I.same a u h
  · rcases key h with ⟨_, a, b⟩ | ⟨_, rfl, rfl⟩
    · exact (I.cell j q c a).to (same_new gn) (fun z => by rw [upd_ne b]; exact z) rfl
    · trivial
  · rcases key h with ⟨_, a, b⟩ | ⟨a, b, _⟩
    · rcases key h' with ⟨_, a', _⟩ | ⟨_, b', _⟩
      · exact I.inj j k q c c' a a'
      · exact absurd b' b
    · rcases key h' with ⟨_, _, b'⟩ | ⟨a', _, _⟩
      · exact absurd b b'
      · omega
  · rcases key h with ⟨_, a, b⟩ | ⟨_, rfl, _⟩
    · exact I.there j q c a
    · exact ⟨o, hp⟩
theorem Own.lst {ds : List D} (I : Own K G H cs) (e : cs[i]? = some (p, .lst ds)) : G p = none ∧ ∃ vs, H p = some (.lst vs) ∧ Reps K G vs ds := I.cell i p _ e
end
end L3

/-! L3b -/
set_option maxHeartbeats 4000000
namespace L3
open PySem L2

abbrev Env := List (Option D)
def RepE (K : PySem.W.Frag) (G : Hp) (σ : L2.St) (Δ : Env) : Prop := σ.length = Δ.length ∧ ∀ (i : Nat) (d : D), Δ[i]? = some (some d) → ∃ v, σ[i]? = some (some v) ∧ Rep K G v d
abbrev RK := D → Cells → Prop
abbrev RsK := List D → Cells → Prop
abbrev BK := Bool → Cells → Prop
def RQ (K : PySem.W.Frag) (G : Hp) (R : RK) (Q : VK) : Prop := ∀ v d cs' G' H', Same G G' → Own K G' H' cs' → Rep K G' v d → R d cs' → Q v H'
def BQ (K : PySem.W.Frag) (G : Hp) (R : BK) (Q : Bool → Hp → Prop) : Prop := ∀ b cs' G' H', Same G G' → Own K G' H' cs' → R b cs' → Q b H'
def AQ (K : PySem.W.Frag) (G : Hp) (R : RsK) (Q : List V → Hp → Prop) : Prop := ∀ vs ds cs' G' H', Same G G' → Own K G' H' cs' → Reps K G' vs ds → R ds cs' → Q vs H'
/-- an expression, a test, arguments: from data and cells to data and cells -/
def Er (K : PySem.W.Frag) (t : TE) (Δ : Env) (cs : Cells) (R : RK) : Prop := ∀ σ G H Q, RepE K G σ Δ → Own K G H cs → RQ K G R Q → t σ H Q
def Et (K : PySem.W.Frag) (t : TT) (Δ : Env) (cs : Cells) (R : BK) : Prop := ∀ σ G H Q, RepE K G σ Δ → Own K G H cs → BQ K G R Q → t σ H Q
def Ea (K : PySem.W.Frag) (t : TA) (Δ : Env) (cs : Cells) (R : RsK) : Prop := ∀ σ G H Q, RepE K G σ Δ → Own K G H cs → AQ K G R Q → t σ H Q
/-- operations by values -/
def O2 (K : PySem.W.Frag) (r : R2) (x y : D) (cs : Cells) (R : RK) : Prop := ∀ v w G H Q, Rep K G v x → Rep K G w y → Own K G H cs → RQ K G R Q → r v w H Q
def O1 (K : PySem.W.Frag) (r : V → Hp → VK → Prop) (x : D) (cs : Cells) (R : RK) : Prop := ∀ v G H Q, Rep K G v x → Own K G H cs → RQ K G R Q → r v H Q
def Oa (K : PySem.W.Frag) (r : List V → Hp → VK → Prop) (xs : List D) (cs : Cells) (R : RK) : Prop := ∀ vs G H Q, Reps K G vs xs → Own K G H cs → RQ K G R Q → r vs H Q

section
variable {K : PySem.W.Frag} {G G' H H' : Hp} {σ : L2.St} {Δ : Env} {cs : Cells} {R : RK} {ta tb tc te : TE} {d x y : D} {r : R2}
theorem RepE.mono (e : Same G G') (h : RepE K G σ Δ) : RepE K G' σ Δ := ⟨h.1, fun i d q => let ⟨v, a, b⟩ := h.2 i d q; ⟨v, a, b.mono e⟩⟩
theorem RepE.set {v : V} (h : RepE K G σ Δ) (r : Rep K G v d) (i : Nat) : RepE K G (σ.set i (some v)) (Δ.set i (some d)) := by
  refine ⟨by rw [List.length_set, List.length_set, h.1], fun j e q => ?_⟩
  by_cases hj : j = i
  · subst hj
    by_cases hl : j < Δ.length
    · rw [List.getElem?_set_self hl] at q
      cases q
      exact ⟨v, List.getElem?_set_self (by rw [h.1]; exact hl), r⟩
    · rw [List.getElem?_eq_none (by rw [List.length_set]; omega)] at q
      cases q
  · rw [List.getElem?_set_ne (Ne.symm hj)] at q
    obtain ⟨u, a, b⟩ := h.2 j e q
    exact ⟨u, by rw [List.getElem?_set_ne (Ne.symm hj)]; exact a, b⟩
theorem RQ.mono {Q : VK} (e : Same G G') (h : RQ K G R Q) : RQ K G' R Q := fun v d cs' G2 H2 a b c q => h v d cs' G2 H2 (e.trans a) b c q
theorem BQ.mono {R : BK} {Q : Bool → Hp → Prop} (e : Same G G') (h : BQ K G R Q) : BQ K G' R Q := fun v cs' G2 H2 a b q => h v cs' G2 H2 (e.trans a) b q
theorem AQ.mono {R : RsK} {Q : List V → Hp → Prop} (e : Same G G') (h : AQ K G R Q) : AQ K G' R Q := fun v d cs' G2 H2 a b c q => h v d cs' G2 H2 (e.trans a) b c q
/-- the answer now, no change -/
theorem RQ.now {Q : VK} {v : V} (q : RQ K G R Q) (I : Own K G H cs) (r : Rep K G v d) (h : R d cs) : Q v H := q v d cs G H (Same.refl G) I r h

def isNonD : D → Bool
  | .raw .non => true
  | _ => false
theorem isNonD_of {v : V} (r : Rep K G v d) : decide (v = .non) = isNonD d := by
  cases r with
  | raw v => cases v <;> rfl
  | tup => exact decide_eq_false fun z => nomatch z
  | lst => exact decide_eq_false fun z => nomatch z
  | ro => exact decide_eq_false fun z => nomatch z
  | obj => exact decide_eq_false fun z => nomatch z
  | exc => exact decide_eq_false fun z => nomatch z
/-! ### expressions -/
theorem er_var {i : Nat} (h : Δ[i]? = some (some d)) (k : R d cs) : Er K (tVar i) Δ cs R := fun σ G H Q E I q => by
  obtain ⟨v, a, b⟩ := E.2 i d h
  exact ⟨v, a, q.now I b k⟩
theorem er_c {v : V} (k : R (.raw v) cs) : Er K (tC v) Δ cs R := fun σ G H Q E I q => q.now I (.raw v) k
/-- a list or tuple of the written part, as a value -/
theorem er_cD {v : V} (hr : ∀ G, Rep K G v d) (k : R d cs) : Er K (tC v) Δ cs R := fun σ G H Q E I q => q.now I (hr G) k
theorem er_op (h : Er K ta Δ cs fun x cs1 => Er K tb Δ cs1 fun y cs2 => O2 K r x y cs2 R) : Er K (tOp r ta tb) Δ cs R := fun σ G H Q E I q =>
  h σ G H _ E I fun v x cs1 G1 H1 e1 I1 r1 h1 => h1 σ G1 H1 _ (E.mono e1) I1 fun w y cs2 G2 H2 e2 I2 r2 h2 => h2 v w G2 H2 Q (r1.mono e2) r2 I2 (q.mono (e1.trans e2))
theorem er_un {r : V → Hp → VK → Prop} (h : Er K ta Δ cs fun x cs1 => O1 K r x cs1 R) : Er K (tUn r ta) Δ cs R := fun σ G H Q E I q =>
  h σ G H _ E I fun v x cs1 G1 H1 e1 I1 r1 h1 => h1 v G1 H1 Q r1 I1 (q.mono e1)
theorem er_cb {r : List V → Hp → VK → Prop} {t : TA} (h : Ea K t Δ cs fun xs cs1 => Oa K r xs cs1 R) : Er K (tCB r t) Δ cs R := fun σ G H Q E I q =>
  h σ G H _ E I fun vs xs cs1 G1 H1 e1 I1 r1 h1 => h1 vs G1 H1 Q r1 I1 (q.mono e1)
theorem ea_nil {R : RsK} (k : R [] cs) : Ea K tNil Δ cs R := fun σ G H Q E I q => q [] [] cs G H (Same.refl G) I .nil k
theorem ea_cons {tr : TA} {R : RsK} (h : Er K te Δ cs fun x cs1 => Ea K tr Δ cs1 fun xs cs2 => R (x :: xs) cs2) : Ea K (tCons te tr) Δ cs R := fun σ G H Q E I q =>
  h σ G H _ E I fun v x cs1 G1 H1 e1 I1 r1 h1 => h1 σ G1 H1 _ (E.mono e1) I1 fun ws xs cs2 G2 H2 e2 I2 r2 h2 => q (v :: ws) (x :: xs) cs2 G2 H2 (e1.trans e2) I2 (.cons (r1.mono e2) r2) h2
theorem er_if {t : TT} (h : Et K t Δ cs fun b cs1 => (b = true → Er K ta Δ cs1 R) ∧ (b = false → Er K tb Δ cs1 R)) : Er K (tIf t ta tb) Δ cs R := fun σ G H Q E I q =>
  h σ G H _ E I fun b cs1 G1 H1 e1 I1 h1 => by
    cases b with
    | true => exact h1.1 rfl σ G1 H1 Q (E.mono e1) I1 (q.mono e1)
    | false => exact h1.2 rfl σ G1 H1 Q (E.mono e1) I1 (q.mono e1)
theorem er_andV (h : Er K ta Δ cs fun x cs1 => ∃ b, x = .bl b ∧ (b = true → Er K tb Δ cs1 R) ∧ (b = false → R (.bl false) cs1)) : Er K (tAndV ta tb) Δ cs R := fun σ G H Q E I q =>
  h σ G H _ E I fun v x cs1 G1 H1 e1 I1 r1 ⟨b, e, h1, h2⟩ => by
    subst e
    refine ⟨b, r1.raw_inv, ?_⟩
    cases b with
    | true => exact h1 rfl σ G1 H1 Q (E.mono e1) I1 (q.mono e1)
    | false => exact (q.mono e1).now I1 (.raw _) (h2 rfl)
theorem er_orV (h : Er K ta Δ cs fun x cs1 => ∃ b, x = .bl b ∧ (b = true → R (.bl true) cs1) ∧ (b = false → Er K tb Δ cs1 R)) : Er K (tOrV ta tb) Δ cs R := fun σ G H Q E I q =>
  h σ G H _ E I fun v x cs1 G1 H1 e1 I1 r1 ⟨b, e, h1, h2⟩ => by
    subst e
    refine ⟨b, r1.raw_inv, ?_⟩
    cases b with
    | true => exact (q.mono e1).now I1 (.raw _) (h1 rfl)
    | false => exact h2 rfl σ G1 H1 Q (E.mono e1) I1 (q.mono e1)
theorem er_notV (h : Er K ta Δ cs fun x cs1 => ∃ b, x = .bl b ∧ R (.bl (!b)) cs1) : Er K (tNotV ta) Δ cs R := fun σ G H Q E I q =>
  h σ G H _ E I fun v x cs1 G1 H1 e1 I1 r1 ⟨b, e, h1⟩ => by
    subst e
    exact ⟨b, r1.raw_inv, (q.mono e1).now I1 (.raw _) h1⟩
theorem er_isN (h : Er K ta Δ cs fun x cs1 => R (.bl (isNonD x)) cs1) : Er K (tIsN ta) Δ cs R := fun σ G H Q E I q =>
  h σ G H _ E I fun v x cs1 G1 H1 e1 I1 r1 h1 => by
    refine (q.mono e1).now I1 (.raw _) ?_
    rw [isNonD_of r1]
    exact h1
theorem er_notN (h : Er K ta Δ cs fun x cs1 => R (.bl (!isNonD x)) cs1) : Er K (tNotN ta) Δ cs R := fun σ G H Q E I q =>
  h σ G H _ E I fun v x cs1 G1 H1 e1 I1 r1 h1 => by
    refine (q.mono e1).now I1 (.raw _) ?_
    rw [isNonD_of r1]
    exact h1
/-! ### tests -/
theorem et_test {R : BK} (h : Er K te Δ cs fun x cs1 => ∃ b, x = .bl b ∧ R b cs1) : Et K (tTest te) Δ cs R := fun σ G H Q E I q =>
  h σ G H _ E I fun v x cs1 G1 H1 e1 I1 r1 ⟨b, e, h1⟩ => by
    subst e
    exact ⟨b, r1.raw_inv, q b cs1 G1 H1 e1 I1 h1⟩
theorem et_B {R : BK} (h : Er K te Δ cs fun x cs1 => ∃ b, x = .bl b ∧ R b cs1) : Et K (tB te) Δ cs R := fun σ G H Q E I q =>
  h σ G H _ E I fun v x cs1 G1 H1 e1 I1 r1 ⟨b, e, h1⟩ => by
    subst e
    exact ⟨b, r1.raw_inv, q b cs1 G1 H1 e1 I1 h1⟩
theorem et_and {t u : TT} {R : BK} (h : Et K t Δ cs fun b cs1 => (b = true → Et K u Δ cs1 R) ∧ (b = false → R false cs1)) : Et K (tAnd t u) Δ cs R := fun σ G H Q E I q =>
  h σ G H _ E I fun b cs1 G1 H1 e1 I1 h1 => by
    cases b with
    | true => exact h1.1 rfl σ G1 H1 Q (E.mono e1) I1 (q.mono e1)
    | false => exact q false cs1 G1 H1 e1 I1 (h1.2 rfl)
theorem et_or {t u : TT} {R : BK} (h : Et K t Δ cs fun b cs1 => (b = true → R true cs1) ∧ (b = false → Et K u Δ cs1 R)) : Et K (tOr t u) Δ cs R := fun σ G H Q E I q =>
  h σ G H _ E I fun b cs1 G1 H1 e1 I1 h1 => by
    cases b with
    | true => exact q true cs1 G1 H1 e1 I1 (h1.1 rfl)
    | false => exact h1.2 rfl σ G1 H1 Q (E.mono e1) I1 (q.mono e1)
theorem et_not {t : TT} {R : BK} (h : Et K t Δ cs fun b cs1 => R (!b) cs1) : Et K (tNot t) Δ cs R := fun σ G H Q E I q =>
  h σ G H _ E I fun b cs1 G1 H1 e1 I1 h1 => q (!b) cs1 G1 H1 e1 I1 h1
theorem et_yes {R : BK} (h : R true cs) : Et K tYes Δ cs R := fun σ G H Q E I q => q true cs G H (Same.refl G) I h
/-! ### new tuples, new lists (owned or not) -/
theorem er_tup {t : TA} (h : Ea K t Δ cs fun ds cs1 => ds.length ≤ sizeLine ∧ R (.tup ds) cs1) : Er K (tTup t) Δ cs R := fun σ G H Q E I q =>
  h σ G H _ E I fun vs ds cs1 G1 H1 e1 I1 r1 ⟨hl, h1⟩ => ⟨by rw [r1.length]; exact hl, fun p n => by
    have n' := I1.same.free n
    exact q (.ref p) (.tup ds) cs1 _ _ (e1.trans (same_new n')) (I1.fresh n) (.tup (.inl (.inl upd_same)) (r1.mono (same_new n'))) h1⟩
/-- .. a list that will not change -/
theorem er_lst {t : TA} (h : Ea K t Δ cs fun ds cs1 => ds.length ≤ sizeLine ∧ R (.lst ds) cs1) : Er K (tLst t) Δ cs R := fun σ G H Q E I q =>
  h σ G H _ E I fun vs ds cs1 G1 H1 e1 I1 r1 ⟨hl, h1⟩ => ⟨by rw [r1.length]; exact hl, fun p n => by
    have n' := I1.same.free n
    exact q (.ref p) (.lst ds) cs1 _ _ (e1.trans (same_new n')) (I1.fresh n) (.lst upd_same (r1.mono (same_new n'))) h1⟩
/-- .. a list that will change: a cell -/
theorem er_lstC {t : TA} (h : Ea K t Δ cs fun ds cs1 => ds.length ≤ sizeLine ∧ ∀ p, R (.raw (.ref p)) (cs1 ++ [(p, .lst ds)])) : Er K (tLst t) Δ cs R := fun σ G H Q E I q =>
  h σ G H _ E I fun vs ds cs1 G1 H1 e1 I1 r1 ⟨hl, h1⟩ => ⟨by rw [r1.length]; exact hl, fun p n => by
    have n' := I1.same.free n
    exact q (.ref p) _ _ _ _ e1 (I1.snoc (co := .lst ds) n ⟨n', vs, upd_same, r1⟩) (.raw _) (h1 p)⟩
theorem er_dnewC (h : ∀ p, R (.raw (.ref p)) (cs ++ [(p, .dct [])])) : Er K tDNewK Δ cs R := fun σ G H Q E I q => fun p n =>
  q (.ref p) _ _ _ _ (Same.refl G) (I.snoc (co := .dct []) n ⟨I.same.free n, [], upd_same, rfl, .nil⟩) (.raw _) (h p)
/-- a value answered by this: what is data stays so -/
theorem er_mono {R' : RK} (h : Er K te Δ cs R) (k : ∀ d cs, R d cs → R' d cs) : Er K te Δ cs R' := fun σ G H Q E I q => h σ G H Q E I fun v d cs1 G1 H1 e I1 r1 h1 => q v d cs1 G1 H1 e I1 r1 (k d cs1 h1)
theorem et_mono {t : TT} {R R' : BK} (h : Et K t Δ cs R) (k : ∀ b cs, R b cs → R' b cs) : Et K t Δ cs R' := fun σ G H Q E I q => h σ G H Q E I fun b cs1 G1 H1 e I1 h1 => q b cs1 G1 H1 e I1 (k b cs1 h1)

/-! ### statements -/
structure AE where
  nx : Env → Cells → Prop
  rt : RK
  bk : Env → Cells → Prop := fun _ _ => False
  ct : Env → Cells → Prop := fun _ _ => False
  iv : Hp → Prop := fun _ => True
def EQ (K : PySem.W.Frag) (G : Hp) (N : Env → Cells → Prop) (Q : L2.St → Hp → Prop) : Prop := ∀ σ' Δ' cs' G' H', Same G G' → RepE K G' σ' Δ' → Own K G' H' cs' → N Δ' cs' → Q σ' H'
structure DQ (K : PySem.W.Frag) (G : Hp) (A : AE) (D : Ends) : Prop where
  nx : EQ K G A.nx D.nx
  rt : RQ K G A.rt D.rt
  bk : EQ K G A.bk D.bk
  ct : EQ K G A.ct D.ct
  iv : ∀ G', Same G G' → A.iv G'
def Xs (K : PySem.W.Frag) (t : TS) (A : AE) (Δ : Env) (cs : Cells) : Prop := ∀ σ G H D, RepE K G σ Δ → Own K G H cs → DQ K G A D → t D σ H
end
section
variable {K : PySem.W.Frag} {G G' H H' : Hp} {σ : L2.St} {Δ : Env} {cs : Cells} {A : AE} {ta tb tc te : TE} {d x y : D} {t u : TS}
theorem EQ.mono {N : Env → Cells → Prop} {Q : L2.St → Hp → Prop} (e : Same G G') (h : EQ K G N Q) : EQ K G' N Q := fun σ' Δ' cs' G2 H2 a b c q => h σ' Δ' cs' G2 H2 (e.trans a) b c q
theorem DQ.mono {D : Ends} (e : Same G G') (h : DQ K G A D) : DQ K G' A D := ⟨h.nx.mono e, h.rt.mono e, h.bk.mono e, h.ct.mono e, fun G2 e2 => h.iv G2 (e.trans e2)⟩
theorem xs_next (h : A.nx Δ cs) : Xs K tNext A Δ cs := fun σ G H D E I q => q.nx σ Δ cs G H (Same.refl G) E I h
theorem xs_seq (h : Xs K t { A with nx := fun Δ cs => Xs K u A Δ cs } Δ cs) : Xs K (tSeq t u) A Δ cs := fun σ G H D E I q =>
  h σ G H _ E I ⟨fun σ' Δ' cs' G' H' e E' I' h' => h' σ' G' H' D E' I' (q.mono e), q.rt, q.bk, q.ct, q.iv⟩
theorem xs_brk (h : A.bk Δ cs) : Xs K tBreak A Δ cs := fun σ G H D E I q => q.bk σ Δ cs G H (Same.refl G) E I h
theorem xs_cont (h : A.ct Δ cs) : Xs K tCont A Δ cs := fun σ G H D E I q => q.ct σ Δ cs G H (Same.refl G) E I h
theorem xs_drop (h : Er K te Δ cs fun _ cs1 => A.nx Δ cs1) : Xs K (tDrop te) A Δ cs := fun σ G H D E I q =>
  h σ G H _ E I fun v x cs1 G1 H1 e1 I1 r1 h1 => q.nx σ Δ cs1 G1 H1 e1 (E.mono e1) I1 h1
theorem xs_ret (h : Er K te Δ cs A.rt) : Xs K (tRet te) A Δ cs := fun σ G H D E I q => h σ G H _ E I q.rt
theorem xs_retN (h : A.rt .non cs) : Xs K tRetN A Δ cs := fun σ G H D E I q => q.rt.now I (.raw .non) h
theorem xs_if {c : TT} (h : Et K c Δ cs fun b cs1 => (b = true → Xs K t A Δ cs1) ∧ (b = false → Xs K u A Δ cs1)) : Xs K (tIfS c t u) A Δ cs := fun σ G H D E I q =>
  h σ G H _ E I fun b cs1 G1 H1 e1 I1 h1 => by
    cases b with
    | true => exact h1.1 rfl σ G1 H1 D (E.mono e1) I1 (q.mono e1)
    | false => exact h1.2 rfl σ G1 H1 D (E.mono e1) I1 (q.mono e1)
theorem xs_asg {i : Nat} (h : Er K te Δ cs fun d cs1 => A.nx (Δ.set i (some d)) cs1) : Xs K (tAsg te (gName i)) A Δ cs := fun σ G H D E I q =>
  h σ G H _ E I fun v d cs1 G1 H1 e1 I1 r1 h1 => q.nx _ _ cs1 G1 H1 e1 ((E.mono e1).set r1 i) I1 h1
/-! ### targets -/
def Gg (K : PySem.W.Frag) (g : TG) (d : D) (Δ : Env) (cs : Cells) (N : Env → Cells → Prop) : Prop := ∀ v σ G H Q, RepE K G σ Δ → Own K G H cs → Rep K G v d → EQ K G N Q → g v σ H Q
def Ggs (K : PySem.W.Frag) (g : TGs) (ds : List D) (Δ : Env) (cs : Cells) (N : Env → Cells → Prop) : Prop := ∀ vs σ G H Q, RepE K G σ Δ → Own K G H cs → Reps K G vs ds → EQ K G N Q → g vs σ H Q
theorem gg_name {i : Nat} {N : Env → Cells → Prop} (h : N (Δ.set i (some d)) cs) : Gg K (gName i) d Δ cs N := fun v σ G H Q E I r q => q _ _ cs G H (Same.refl G) (E.set r i) I h
theorem ggs_nil {N : Env → Cells → Prop} (h : N Δ cs) : Ggs K gNil [] Δ cs N := fun vs σ G H Q E I r q => ⟨by cases r; rfl, q σ Δ cs G H (Same.refl G) E I h⟩
theorem ggs_cons {g : TG} {gs : TGs} {ds : List D} {N : Env → Cells → Prop} (h : Gg K g d Δ cs fun Δ' cs' => Ggs K gs ds Δ' cs' N) : Ggs K (gCons g gs) (d :: ds) Δ cs N := fun vs σ G H Q E I r q => by
  cases r with
  | cons r rs =>
    rename_i v vs
    exact ⟨v, vs, rfl, h v σ G H _ E I r fun σ' Δ' cs' G' H' e E' I' h' => h' vs σ' G' H' Q E' I' (rs.mono e) (q.mono e)⟩
theorem gg_tup {n : Nat} {gs : TGs} {ds : List D} {N : Env → Cells → Prop} (hl : ds.length = n) (h : Ggs K gs ds Δ cs N) : Gg K (gTup K n gs) (.tup ds) Δ cs N := fun v σ G H Q E I r q => by
  obtain ⟨p, vs, rfl, hp, rs⟩ := r.tup_inv
  exact ⟨p, vs, rfl, seqT I.same hp, by rw [rs.length]; exact hl, h vs σ G H Q E I rs q⟩
theorem xs_asgG {g : TG} (h : Er K te Δ cs fun d cs1 => Gg K g d Δ cs1 A.nx) : Xs K (tAsg te g) A Δ cs := fun σ G H D E I q =>
  h σ G H _ E I fun v d cs1 G1 H1 e1 I1 r1 h1 => h1 v σ G1 H1 _ (E.mono e1) I1 r1 (q.nx.mono e1)

theorem xs_never : False → Xs K tNever A Δ cs := fun h => h.elim
/-! ### what is walked -/
structure WalkD (K : PySem.W.Frag) (G : Hp) (J : It) (ds : List D) : Prop where
  goes : ∀ i H, i < ds.length → Same G H → J.go i H
  stops : ∀ H, Same G H → J.stop ds.length H
  yields : ∀ (i : Nat) H x H' G2 cs d, ds[i]? = some d → Same G G2 → Own K G2 H cs → J.yld i H x H' → ∃ G3, Same G2 G3 ∧ Own K G3 H' cs ∧ Rep K G3 x d
def Ei (K : PySem.W.Frag) (wi : TI) (Δ : Env) (cs : Cells) (R : RsK) : Prop := ∀ σ G H Rr, RepE K G σ Δ → Own K G H cs → (∀ J ds cs' G' H', Same G G' → Own K G' H' cs' → WalkD K G' J ds → R ds cs' → Rr J H') → wi σ H Rr
theorem WalkD.mono {J : It} {ds : List D} (e : Same G G') (w : WalkD K G J ds) : WalkD K G' J ds :=
  ⟨fun i H hi s => w.goes i H hi (e.trans s), fun H s => w.stops H (e.trans s), fun i H x H' G2 cs d h1 h2 => w.yields i H x H' G2 cs d h1 (e.trans h2)⟩
theorem xs_for {wi : TI} {g : TG} (h : Ei K wi Δ cs fun ds cs1 => ∃ Pv : Nat → Env → Cells → Prop, Pv 0 Δ cs1 ∧
    (∀ i d Δ cs, ds[i]? = some d → Pv i Δ cs → Gg K g d Δ cs fun Δ' cs' => Xs K t { A with nx := Pv (i + 1), ct := Pv (i + 1), bk := A.nx } Δ' cs') ∧ ∀ Δ cs, Pv ds.length Δ cs → A.nx Δ cs) : Xs K (tFor wi g t) A Δ cs := fun σ G H D E I q =>
  h σ G H _ E I fun J ds cs1 G1 H1 e1 I1 w ⟨Pv, h0, hs, hd⟩ => by
    refine ⟨fun i m σ' H' => m = ds.length - i ∧ i ≤ ds.length ∧ ∃ Δ' cs' G', Same G1 G' ∧ RepE K G' σ' Δ' ∧ Own K G' H' cs' ∧ Pv i Δ' cs', ⟨ds.length, by omega, Nat.zero_le _, Δ, cs1, G1, Same.refl G1, E.mono e1, I1, h0⟩, ?_⟩
    rintro i m σ' H' ⟨rfl, hi, Δ', cs', G', e', E', I', h'⟩
    by_cases hlt : i < ds.length
    · refine .inr ⟨w.goes i H' hlt (e'.trans I'.same), fun σ2 H2 => ∃ Δ' cs' G', Same G1 G' ∧ RepE K G' σ2 Δ' ∧ Own K G' H2 cs' ∧ Pv (i + 1) Δ' cs', fun σ2 H2 n => ⟨ds.length - (i + 1), by omega, rfl, hlt, n⟩, fun x H2 y => ?_⟩
      obtain ⟨G3, e3, I3, r3⟩ := w.yields i H' x H2 G' cs' _ (List.getElem?_eq_getElem hlt) e' I' y
      refine hs i _ Δ' cs' (List.getElem?_eq_getElem hlt) h' x σ' G3 H2 _ (E'.mono e3) I3 r3 fun σ4 Δ4 cs4 G4 H4 e4 E4 I4 h4 => ?_
      have e04 := (e'.trans e3).trans e4
      exact h4 σ4 G4 H4 _ E4 I4 ⟨fun σ5 Δ5 cs5 G5 H5 e5 E5 I5 h5 => ⟨Δ5, cs5, G5, e04.trans e5, E5, I5, h5⟩, q.rt.mono (e1.trans e04), q.nx.mono (e1.trans e04), fun σ5 Δ5 cs5 G5 H5 e5 E5 I5 h5 => ⟨Δ5, cs5, G5, e04.trans e5, E5, I5, h5⟩, fun G9 e9 => q.iv G9 ((e1.trans e04).trans e9)⟩
    · have e : i = ds.length := by omega
      subst e
      exact .inl ⟨w.stops H' (e'.trans I'.same), q.nx σ' Δ' cs' G' H' (e1.trans e') E' I' (hd Δ' cs' h')⟩
theorem ei_list {R : RsK} (h : Er K te Δ cs fun d cs1 => ∃ ds, d = .lst ds ∧ R ds cs1) : Ei K (iList K te) Δ cs R := fun σ G H Rr E I q =>
  h σ G H _ E I fun v d cs1 G1 H1 e1 I1 r1 ⟨ds, ed, h1⟩ => by
    subst ed
    obtain ⟨p, vs, rfl, hp, rs⟩ := r1.lst_inv
    refine ⟨p, rfl, ⟨vs, I1.same.seq hp⟩, q _ ds cs1 G1 H1 e1 I1 ⟨fun i H' hi s => ?_, fun H' s => ⟨vs, s.seq hp, by rw [rs.length]; omega⟩, fun i H' x H2 G2 cs2 d hd s I2 y => ?_⟩ h1⟩
    · have hi' : i < vs.length := by rw [rs.length]; exact hi
      exact ⟨vs, vs[i], s.seq hp, List.getElem?_eq_getElem hi'⟩
    · obtain ⟨rfl, y⟩ := y
      obtain ⟨v, hv, rv⟩ := rs.get hd
      have := y vs ((s.trans I2.same).seq hp)
      rw [hv] at this
      cases this
      exact ⟨G2, Same.refl G2, I2, rv.mono s⟩
theorem ei_tup {R : RsK} (h : Er K te Δ cs fun d cs1 => ∃ ds, d = .tup ds ∧ R ds cs1) : Ei K (iTup K te) Δ cs R := fun σ G H Rr E I q =>
  h σ G H _ E I fun v d cs1 G1 H1 e1 I1 r1 ⟨ds, ed, h1⟩ => by
    subst ed
    obtain ⟨p, vs, rfl, hp, rs⟩ := r1.tup_inv
    refine ⟨p, rfl, ⟨vs, seqT I1.same hp⟩, q _ ds cs1 G1 H1 e1 I1 ⟨fun i H' hi s => ?_, fun H' s => ⟨vs, seqT s hp, by rw [rs.length]; omega⟩, fun i H' x H2 G2 cs2 d hd s I2 y => ?_⟩ h1⟩
    · have hi' : i < vs.length := by rw [rs.length]; exact hi
      exact ⟨vs, vs[i], seqT s hp, List.getElem?_eq_getElem hi'⟩
    · obtain ⟨rfl, y⟩ := y
      obtain ⟨v, hv, rv⟩ := rs.get hd
      have := y vs (seqT (s.trans I2.same) hp)
      rw [hv] at this
      cases this
      exact ⟨G2, Same.refl G2, I2, rv.mono s⟩
def rangeD (n : Nat) : List D := (List.range n).map fun (i : Nat) => D.int i
theorem rangeD_len (n : Nat) : (rangeD n).length = n := by simp [rangeD]
theorem rangeD_get {n i : Nat} {d : D} (h : (rangeD n)[i]? = some d) : i < n ∧ d = .int i := by
  unfold rangeD at h
  rw [List.getElem?_map] at h
  cases e : (List.range n)[i]? with
  | none => rw [e] at h; cases h
  | some k =>
    rw [e] at h
    obtain ⟨h1, h2⟩ := List.getElem?_eq_some_iff.mp e
    rw [List.getElem_range] at h2
    rw [List.length_range] at h1
    subst h2
    exact ⟨h1, (Option.some.inj h).symm⟩
theorem ei_range {ta : TA} {R : RsK} (h : Ea K ta Δ cs fun xs cs1 => ∃ n : Int, xs = [.int n] ∧ n < 2 ^ 62 ∧ -(2 ^ 62) ≤ n ∧ R (rangeD n.toNat) cs1) : Ei K (iRng1 ta) Δ cs R := fun σ G H Rr E I q =>
  h σ G H _ E I fun vs ds cs1 G1 H1 e1 I1 r1 ⟨n, ed, hn, hm, h1⟩ => by
    subst ed
    have ev : vs = [V.int n] := Reps.raws (ws := [V.int n]) r1
    refine ⟨n, ev, hm, hn, q _ _ cs1 G1 H1 e1 I1 ⟨fun i H' hi s => ?_, fun H' s => ?_, fun i H' x H2 G2 cs2 d hd s I2 y => ?_⟩ h1⟩
    · rw [rangeD_len] at hi
      exact hi
    · rw [rangeD_len]
      exact Nat.le_refl _
    · obtain ⟨rfl, rfl⟩ := y
      obtain ⟨_, rfl⟩ := rangeD_get hd
      have e0 : (0 : Int) + (i : Int) = (i : Int) := Int.zero_add _
      rw [e0]
      exact ⟨G2, Same.refl G2, I2, .raw _⟩
def signsD (z : Str) : List D := z.cps.toList.map fun c => D.str ⟨#[c]⟩
theorem ei_str {R : RsK} (h : Er K te Δ cs fun d cs1 => ∃ z, d = .str z ∧ R (signsD z) cs1) : Ei K (iStr te) Δ cs R := fun σ G H Rr E I q =>
  h σ G H _ E I fun v d cs1 G1 H1 e1 I1 r1 ⟨z, ed, h1⟩ => by
    subst ed
    have hl : (signsD z).length = z.cps.size := by simp [signsD]
    refine ⟨z, r1.raw_inv, q _ _ cs1 G1 H1 e1 I1 ⟨fun i H' hi s => ?_, fun H' s => ?_, fun i H' x H2 G2 cs2 d hd s I2 y => ?_⟩ h1⟩
    · rw [hl] at hi
      exact hi
    · rw [hl]
      exact Nat.le_refl _
    · obtain ⟨rfl, c, hc, rfl⟩ := y
      unfold signsD at hd
      rw [List.getElem?_map, Array.getElem?_toList, hc] at hd
      cases hd
      exact ⟨G2, Same.refl G2, I2, .raw _⟩
def enumD (ds : List D) : List D := ds.mapIdx fun i d => D.tup [.int (i : Nat), d]
theorem ei_enum {ta : TA} {R : RsK} (h : Ea K ta Δ cs fun xs cs1 => ∃ ds, xs = [.lst ds] ∧ R (enumD ds) cs1) : Ei K (iEnum K ta) Δ cs R := fun σ G H Rr E I q =>
  h σ G H _ E I fun ws xs cs1 G1 H1 e1 I1 r1 ⟨ds, ed, h1⟩ => by
    subst ed
    cases r1 with
    | cons ra rb =>
      cases rb
      obtain ⟨p, vs, rfl, hp, rs⟩ := ra.lst_inv
      have hl : (enumD ds).length = vs.length := by simp [enumD, rs.length]
      refine ⟨p, vs, rfl, I1.same.seq hp, q _ _ cs1 G1 H1 e1 I1 ⟨fun i H' hi s => ?_, fun H' s => ⟨vs, s.seq hp, by rw [hl]; exact Nat.le_refl _⟩, fun i H' x H2 G2 cs2 d hd s I2 y => ?_⟩ h1⟩
      · have hi' : i < vs.length := by rw [← hl]; exact hi
        exact ⟨vs, vs[i], s.seq hp, List.getElem?_eq_getElem hi'⟩
      · obtain ⟨T, x1, rfl, nT, rfl, y⟩ := y
        have hy := y vs ((s.trans I2.same).seq hp)
        obtain ⟨d1, hd1, rd1⟩ := rs.getV hy
        unfold enumD at hd
        rw [List.getElem?_mapIdx, hd1] at hd
        cases hd
        have sn := same_new (o := .tup [V.int (i : Nat), x1]) (I2.same.free nT)
        exact ⟨_, sn, I2.fresh nT, .tup (.inl (.inl upd_same)) (.cons (.raw _) (.cons ((rd1.mono s).mono sn) .nil))⟩
/-! ### comprehensions -/
def wipeE (Δ : Env) : List Nat → Env
  | [] => Δ
  | i :: r => (wipeE Δ r).set i none
theorem RepE.none (h : RepE K G σ Δ) (i : Nat) : RepE K G (σ.set i none) (Δ.set i none) := by
  refine ⟨by rw [List.length_set, List.length_set, h.1], fun j e q => ?_⟩
  by_cases hj : j = i
  · subst hj
    by_cases hl : j < Δ.length
    · rw [List.getElem?_set_self hl] at q
      cases q
    · rw [List.getElem?_eq_none (by rw [List.length_set]; omega)] at q
      cases q
  · rw [List.getElem?_set_ne (Ne.symm hj)] at q
    obtain ⟨u, a, b⟩ := h.2 j e q
    exact ⟨u, by rw [List.getElem?_set_ne (Ne.symm hj)]; exact a, b⟩
theorem RepE.wipe : ∀ {vs : List Nat} {σ : L2.St} {Δ : Env}, RepE K G σ Δ → RepE K G (L2.wipe σ vs) (wipeE Δ vs)
  | [], _, _, h => h
  | i :: r, _, _, h => (RepE.wipe (vs := r) h).none i
/-- the target stores in the comprehension's own slots only -/
def TgtIn (g : TG) (vs : List Nat) : Prop := ∀ (v : V) (σ0 σ : L2.St) (H : Hp) (Q Q' : L2.St → Hp → Prop), L2.wipe σ vs = σ0 → (∀ σ2 H2, L2.wipe σ2 vs = σ0 → Q σ2 H2 → Q' σ2 H2) → g v σ H Q → g v σ H Q'
def TgtsIn (g : TGs) (vs : List Nat) : Prop := ∀ (v : List V) (σ0 σ : L2.St) (H : Hp) (Q Q' : L2.St → Hp → Prop), L2.wipe σ vs = σ0 → (∀ σ2 H2, L2.wipe σ2 vs = σ0 → Q σ2 H2 → Q' σ2 H2) → g v σ H Q → g v σ H Q'
theorem wipe_set {x : Option V} : ∀ {vs : List Nat} {σ : L2.St} {j : Nat}, j ∈ vs → L2.wipe (σ.set j x) vs = L2.wipe σ vs
  | i :: r, σ, j, h => by
    show (L2.wipe (σ.set j x) r).set i none = (L2.wipe σ r).set i none
    by_cases hr : j ∈ r
    · rw [wipe_set hr]
    · have e : j = i := by
        rcases List.mem_cons.mp h with e | e
        · exact e
        · exact absurd e hr
      subst e
      have key : ∀ {r : List Nat} {σ : L2.St}, j ∉ r → L2.wipe (σ.set j x) r = (L2.wipe σ r).set j x := by
        intro r
        induction r with
        | nil => intro σ _; rfl
        | cons k r ih =>
          intro σ hk
          show (L2.wipe (σ.set j x) r).set k none = ((L2.wipe σ r).set k none).set j x
          rw [ih (fun z => hk (List.mem_cons_of_mem _ z)), List.set_comm]
          exact fun z => hk (by rw [z]; exact List.mem_cons_self ..)
      rw [key hr, List.set_set]
theorem wipe_wipe (σ : L2.St) : ∀ {vs : List Nat}, L2.wipe (L2.wipe σ vs) vs = L2.wipe σ vs := by
  have key : ∀ (vs ws : List Nat), (∀ i ∈ vs, i ∈ ws) → L2.wipe (L2.wipe σ vs) ws = L2.wipe σ ws := by
    intro vs
    induction vs with
    | nil => intro ws _; rfl
    | cons i r ih =>
      intro ws h
      show L2.wipe ((L2.wipe σ r).set i none) ws = _
      rw [wipe_set (h i (List.mem_cons_self ..)), ih ws fun k hk => h k (List.mem_cons_of_mem _ hk)]
  intro vs
  exact key vs vs fun _ h => h
theorem tgt_name {j : Nat} {vs : List Nat} (h : j ∈ vs) : TgtIn (gName j) vs := fun v σ0 σ H Q Q' e k q => k _ _ (by rw [wipe_set h]; exact e) q
theorem tgts_nil {vs : List Nat} : TgtsIn gNil vs := fun v σ0 σ H Q Q' e k q => ⟨q.1, k _ _ e q.2⟩
theorem tgts_cons {g : TG} {gs : TGs} {vs : List Nat} (h1 : TgtIn g vs) (h2 : TgtsIn gs vs) : TgtsIn (gCons g gs) vs := fun v σ0 σ H Q Q' e k ⟨a, r, e2, q⟩ =>
  ⟨a, r, e2, h1 a σ0 σ H _ _ e (fun σ2 H2 e3 q2 => h2 r σ0 σ2 H2 Q Q' e3 k q2) q⟩
theorem tgt_tup {n : Nat} {gs : TGs} {vs : List Nat} (h : TgtsIn gs vs) : TgtIn (gTup K n gs) vs := fun v σ0 σ H Q Q' e k ⟨a, xs, e1, e2, e3, q⟩ => ⟨a, xs, e1, e2, e3, h xs σ0 σ H Q Q' e k q⟩
theorem er_lcC {wi : TI} {g : TG} {tt : TT} {vs : List Nat} {R : RK} (hw : TgtIn g vs) (h : Ei K wi Δ cs fun ds cs1 => ∃ Pv : Nat → List D → Cells → Prop, Pv 0 [] cs1 ∧
    (∀ i d acc cs2 p, ds[i]? = some d → Pv i acc cs2 → Gg K g d (wipeE Δ vs) (cs2 ++ [(p, .lst acc)]) fun Δ' cs3 => Et K tt Δ' cs3 fun b cs4 =>
      (b = true → Er K te Δ' cs4 fun y cs5 => ∃ cs6, cs5 = cs6 ++ [(p, .lst acc)] ∧ acc.length < sizeLine ∧ Pv (i + 1) (acc ++ [y]) cs6) ∧ (b = false → ∃ cs6, cs4 = cs6 ++ [(p, .lst acc)] ∧ Pv (i + 1) acc cs6)) ∧
    ∀ acc cs2, Pv ds.length acc cs2 → ∀ p, R (.raw (.ref p)) (cs2 ++ [(p, .lst acc)])) : Er K (tLc wi g tt te vs) Δ cs R := fun σ G H Q E I q =>
  h σ G H _ E I fun J ds cs1 G1 H1 e1 I1 w ⟨Pv, h0, hs, hd⟩ => fun Dl hD => by
    have st : ∀ {cs' : Cells} {G' H' : Hp} {acc : List D}, Own K G' H' (cs' ++ [(Dl, .lst acc)]) → (cs' ++ [(Dl, CO.lst acc)])[cs'.length]? = some (Dl, .lst acc) := fun _ => by simp
    refine ⟨fun i m H' => m = ds.length - i ∧ i ≤ ds.length ∧ ∃ acc cs' G', Same G1 G' ∧ Own K G' H' (cs' ++ [(Dl, .lst acc)]) ∧ Pv i acc cs', ⟨ds.length, by omega, Nat.zero_le _, [], cs1, G1, Same.refl G1, I1.snoc (co := .lst []) hD ⟨I1.same.free hD, [], upd_same, .nil⟩, h0⟩, ?_⟩
    rintro i m H' ⟨rfl, hi, acc, cs', G', e', I', h'⟩
    by_cases hlt : i < ds.length
    · refine .inr ⟨w.goes i H' hlt (e'.trans I'.same), fun H2 => ∃ acc cs' G', Same G1 G' ∧ Own K G' H2 (cs' ++ [(Dl, .lst acc)]) ∧ Pv (i + 1) acc cs', fun H2 n => ⟨ds.length - (i + 1), by omega, rfl, hlt, n⟩, fun x H2 y => ?_⟩
      obtain ⟨G3, e3, I3, r3⟩ := w.yields i H' x H2 G' _ _ (List.getElem?_eq_getElem hlt) e' I' y
      refine hw x (L2.wipe σ vs) (L2.wipe σ vs) H2 _ _ (wipe_wipe σ) (fun σ4 H4 ew q4 => ⟨ew, q4⟩) ?_
      refine hs i _ acc cs' Dl (List.getElem?_eq_getElem hlt) h' x (L2.wipe σ vs) G3 H2 _ ((E.mono (e1.trans (e'.trans e3))).wipe) I3 r3 fun σ4 Δ4 cs4 G4 H4 e4 E4 I4 h4 => ?_
      refine h4 σ4 G4 H4 _ E4 I4 fun b cs5 G5 H5 e5 I5 h5 => ?_
      cases b with
      | true =>
        show te σ4 H5 _
        refine h5.1 rfl σ4 G5 H5 _ (E4.mono e5) I5 fun y d6 cs6 G6 H6 e6 I6 r6 h6 => ?_
        obtain ⟨cs7, rfl, hl, h7⟩ := h6
        obtain ⟨gn, vs6, h8, r8⟩ := I6.lst (st I6)
        refine ⟨vs6, h8, by rw [r8.length]; exact hl, acc ++ [d6], cs7, G6, ((e'.trans e3).trans e4).trans (e5.trans e6), ?_, h7⟩
        have z := I6.put (o := .lst (vs6 ++ [y])) (co' := .lst (acc ++ [d6])) (st I6) gn ⟨gn, _, upd_same, r8.append (.cons r6 .nil)⟩
        rw [List.set_append_right _ _ (Nat.le_refl _), Nat.sub_self] at z
        exact z
      | false =>
        obtain ⟨cs7, rfl, h7⟩ := h5.2 rfl
        exact ⟨acc, cs7, G5, ((e'.trans e3).trans e4).trans e5, I5, h7⟩
    · have e : i = ds.length := by omega
      subst e
      exact .inl ⟨w.stops H' (e'.trans I'.same), q _ _ _ G' H' (e1.trans e') I' (.raw _) (hd acc cs' h' Dl)⟩
/-- a cell that is handed on as data -/
theorem er_shareLast {R : RK} (h : Er K te Δ cs fun d cs1 => ∃ p ds cs2, d = .raw (.ref p) ∧ cs1 = cs2 ++ [(p, .lst ds)] ∧ R (.lst ds) cs2) : Er K te Δ cs R := fun σ G H Q E I q =>
  h σ G H _ E I fun v d cs1 G1 H1 e1 I1 r1 ⟨p, ds, cs2, ed, ec, h1⟩ => by
    subst ed ec
    have e : (cs2 ++ [(p, CO.lst ds)])[cs2.length]? = some (p, .lst ds) := by simp
    obtain ⟨gn, vs, hp, rs⟩ := I1.lst e
    obtain ⟨I2, s2⟩ := I1.share e hp gn
    have I3 := I2.take cs2.length
    rw [List.set_append_right _ _ (Nat.le_refl _), List.take_left'] at I3
    · have ev : v = .ref p := r1.raw_inv
      subst ev
      exact q (.ref p) (.lst ds) cs2 _ H1 (e1.trans s2) I3 (.lst upd_same (rs.mono s2)) h1
    · rfl
theorem er_lc {wi : TI} {g : TG} {tt : TT} {vs : List Nat} {R : RK} (hw : TgtIn g vs) (h : Ei K wi Δ cs fun ds cs1 => ∃ Pv : Nat → List D → Cells → Prop, Pv 0 [] cs1 ∧
    (∀ i d acc cs2 p, ds[i]? = some d → Pv i acc cs2 → Gg K g d (wipeE Δ vs) (cs2 ++ [(p, .lst acc)]) fun Δ' cs3 => Et K tt Δ' cs3 fun b cs4 =>
      (b = true → Er K te Δ' cs4 fun y cs5 => ∃ cs6, cs5 = cs6 ++ [(p, .lst acc)] ∧ acc.length < sizeLine ∧ Pv (i + 1) (acc ++ [y]) cs6) ∧ (b = false → ∃ cs6, cs4 = cs6 ++ [(p, .lst acc)] ∧ Pv (i + 1) acc cs6)) ∧
    ∀ acc cs2, Pv ds.length acc cs2 → R (.lst acc) cs2) : Er K (tLc wi g tt te vs) Δ cs R := by
  refine er_shareLast (er_lcC hw ?_)
  intro σ G H Rr E I q
  refine h σ G H Rr E I fun J ds cs' G' H' e I' w ⟨Pv, h0, hs, hd⟩ => q J ds cs' G' H' e I' w ⟨Pv, h0, hs, fun acc cs2 hp p => ⟨p, acc, cs2, rfl, rfl, hd acc cs2 hp⟩⟩
end
end L3

/-! L3c -/
set_option maxHeartbeats 4000000
namespace L3
open PySem L2

/-! ### what a def promises, in data -/
/-- an exception in data: its class, its own fields -/
abbrev XA := Value → List (Str × D) → Cells → Prop
abbrev X0 : XA := fun _ _ _ => False
def XdOk (K : PySem.W.Frag) (G : Hp) (d : Option Addr) (pl : List (Str × D)) : Prop :=
  (d = none ∧ pl = []) ∨ ∃ dx fs, pl ≠ [] ∧ d = some dx ∧ G dx = some (.xd fs) ∧ fs.map (·.1) = pl.map (·.1) ∧ Reps K G (fs.map (·.2)) (pl.map (·.2))
def XQ (K : PySem.W.Frag) (G : Hp) (X : XA) (E : XK) : Prop := ∀ cls d pl cs' G' H', Same G G' → Own K G' H' cs' → XdOk K G' d pl → X cls pl cs' → E cls d H'
abbrev Tr := List D → Cells → RK → XA → Prop
def spA (K : PySem.W.Frag) (F : Tr) : Sp := fun vs H Q E => ∃ G cs ds R X, Own K G H cs ∧ Reps K G vs ds ∧ F ds cs R X ∧ RQ K G R Q ∧ XQ K G X E
def startE (N : List Str) (ds : List D) : Env := ds.map some ++ List.replicate (N.length - ds.length) none
section
variable {K : PySem.W.Frag} {G G' H H' : Hp} {σ : L2.St} {Δ : Env} {cs : Cells} {R : RK} {ta tb tc te : TE} {d x y : D} {X : XA}
theorem XQ.mono {E : XK} (e : Same G G') (h : XQ K G X E) : XQ K G' X E := fun cls d pl cs' G2 H2 a b c q => h cls d pl cs' G2 H2 (e.trans a) b c q
theorem xq0 {E : XK} : XQ K G X0 E := fun _ _ _ _ _ _ _ _ _ h => h.elim
theorem spA_len {F : Tr} {n : Nat} (h : ∀ ds cs R X, F ds cs R X → ds.length = n) : ∀ vs H Q E, spA K F vs H Q E → vs.length = n := fun vs H Q E ⟨G, cs, ds, R, X, I, r, f, _, _⟩ => by
  rw [r.length]
  exact h ds cs R X f
theorem repE_start {N : List Str} {vs : List V} {ds : List D} (r : Reps K G vs ds) : RepE K G (L2.start N vs) (startE N ds) := by
  refine ⟨by simp [L2.start, startE, r.length], fun i d q => ?_⟩
  unfold startE at q
  unfold L2.start
  by_cases hi : i < ds.length
  · rw [List.getElem?_append_left (by simpa using hi), List.getElem?_map] at q
    cases e : ds[i]? with
    | none => rw [e] at q; cases q
    | some d2 =>
      rw [e] at q
      cases q
      obtain ⟨v, h1, h2⟩ := r.get e
      refine ⟨v, ?_, h2⟩
      rw [List.getElem?_append_left (by simpa [r.length] using hi), List.getElem?_map, h1]
      rfl
  · rw [List.getElem?_append_right (by simpa using Nat.le_of_not_lt hi)] at q
    rw [List.getElem?_replicate] at q
    split at q <;> cases q
/-- a def's body: from its promise's front to its statements. The cells behind the n-th are dropped at a return -/
theorem enter {F : Tr} {N : List Str} {vs : List V} {Q : VK} {E : XK} {t : TS} (h : spA K F vs H Q E)
    (k : ∀ ds cs R X G, F ds cs R X → XQ K G X E → Xs K t ⟨fun _ cs' => ∃ n, R .non (cs'.take n), fun d cs' => ∃ n, R d (cs'.take n), fun _ _ => False, fun _ _ => False, fun G' => XQ K G' X E⟩ (startE N ds) cs) :
    t { nx := fun _ H' => Q .non H', rt := Q } (L2.start N vs) H := by
  obtain ⟨G, cs, ds, R, X, I, r, f, q, xq⟩ := h
  refine k ds cs R X G f xq (L2.start N vs) G H _ (repE_start r) I ⟨?_, ?_, ?_, ?_, fun G' e => xq.mono e⟩
  · intro σ' Δ' cs' G' H' e E' I' ⟨n, h'⟩
    exact q .non .non _ G' H' e (I'.take n) (.raw _) h'
  · intro v d cs' G' H' e I' r' ⟨n, h'⟩
    exact q v d _ G' H' e (I'.take n) r' h'
  · intro σ' Δ' cs' G' H' e E' I' h'
    exact h'.elim
  · intro σ' Δ' cs' G' H' e E' I' h'
    exact h'.elim
/-! ### calls -/
theorem er_call {F : Tr} {dvs : List V} {E : XK} {t : TA} (h : Ea K t Δ cs fun xs cs1 => F (xs ++ dvs.map D.raw) cs1 R X0) : Er K (tCall (spA K F) dvs E t) Δ cs R := fun σ G H Q Ev I q =>
  h σ G H _ Ev I fun vs xs cs1 G1 H1 e1 I1 r1 h1 => ⟨G1, cs1, _, R, X0, I1, r1.append (Reps.of_raws dvs), h1, q.mono e1, xq0⟩
/-- .. where exceptions are wished for -/
theorem er_callX {F : Tr} {dvs : List V} {E : XK} {t : TA} (hE : ∀ G, XQ K G X E) (h : Ea K t Δ cs fun xs cs1 => F (xs ++ dvs.map D.raw) cs1 R X) : Er K (tCall (spA K F) dvs E t) Δ cs R := fun σ G H Q Ev I q =>
  h σ G H _ Ev I fun vs xs cs1 G1 H1 e1 I1 r1 h1 => ⟨G1, cs1, _, R, X, I1, r1.append (Reps.of_raws dvs), h1, q.mono e1, hE G1⟩
theorem lookup_none {fs : List (Str × V)} {m : Str} (h : m ∉ fs.map (·.1)) : fs.lookup m = none := by
  induction fs with
  | nil => rfl
  | cons p r ih =>
    obtain ⟨f, v⟩ := p
    have h1 : m ≠ f := fun e => h (by rw [e]; exact List.mem_cons_self ..)
    have hb : (m == f) = false := beq_eq_false_iff_ne.mpr h1
    simp only [List.lookup, hb]
    exact ih fun z => h (List.mem_cons_of_mem _ z)
/-- a method of data -/
theorem er_meth {C : Addr} {m : Str} {F : Tr} {dvs : List V} {E : XK} {t : TA} (hE : ∀ G, XQ K G X E) (h : Er K ta Δ cs fun x cs1 => ∃ ns ds, x = .obj C ns ds ∧ m ∉ ns ∧ Ea K t Δ cs1 fun xs cs2 => F (x :: (xs ++ dvs.map D.raw)) cs2 R X) : Er K (tMeth C m (spA K F) dvs E ta t) Δ cs R := fun σ G H Q Ev I q =>
  h σ G H _ Ev I fun v x cs1 G1 H1 e1 I1 r1 ⟨ns, ds, ex, hm, h1⟩ => by
    subst ex
    obtain ⟨p, dx, fs, rfl, hp, hn, rs⟩ := id r1.obj_inv
    refine ⟨p, dx, fs, rfl, I1.same _ _ hp, lookup_none (by rw [hn]; exact hm), ?_⟩
    exact h1 σ G1 H1 _ (Ev.mono e1) I1 fun vs xs cs2 G2 H2 e2 I2 r2 h2 => ⟨G2, cs2, _, R, X, I2, .cons (r1.mono e2) (r2.append (Reps.of_raws dvs)), h2, q.mono (e1.trans e2), hE G2⟩
/-- a method of an owned object -/
theorem er_methC {C : Addr} {m : Str} {F : Tr} {dvs : List V} {E : XK} {t : TA} (hE : ∀ G, XQ K G X E) (h : Er K ta Δ cs fun x cs1 => ∃ (p : Addr) (i : Nat) (ns : List Str) (ds : List D), x = .raw (.ref p) ∧ cs1[i]? = some (p, CO.ins C ns ds) ∧ m ∉ ns ∧ Ea K t Δ cs1 fun xs cs2 => F (x :: (xs ++ dvs.map D.raw)) cs2 R X) : Er K (tMeth C m (spA K F) dvs E ta t) Δ cs R := fun σ G H Q Ev I q =>
  h σ G H _ Ev I fun v x cs1 G1 H1 e1 I1 r1 ⟨p, i, ns, ds, ex, hc, hm, h1⟩ => by
    subst ex
    obtain ⟨_, dx, fs, hp, hn, rs⟩ := I1.cell i p _ hc
    refine ⟨p, dx, fs, r1.raw_inv, hp, lookup_none (by rw [hn]; exact hm), ?_⟩
    exact h1 σ G1 H1 _ (Ev.mono e1) I1 fun vs xs cs2 G2 H2 e2 I2 r2 h2 => ⟨G2, cs2, _, R, X, I2, .cons (r1.mono e2) (r2.append (Reps.of_raws dvs)), h2, q.mono (e1.trans e2), hE G2⟩
/-- a new object, owned behind its __init__ -/
theorem er_makeC {C : Addr} {F : Tr} {dvs : List V} {E : XK} {t : TA} (hE : ∀ G, XQ K G X E) (h : Ea K t Δ cs fun xs cs1 => ∀ p, F (.raw (.ref p) :: (xs ++ dvs.map D.raw)) (cs1 ++ [(p, .ins C [] [])]) (fun d cs2 => d = .non ∧ R (.raw (.ref p)) cs2) X) : Er K (tMake C (spA K F) dvs E t) Δ cs R := fun σ G H Q Ev I q =>
  h σ G H _ Ev I fun vs xs cs1 G1 H1 e1 I1 r1 h1 => fun p dx np ndx ne => by
    have I2 : Own K G1 (upd H1 dx (.own p)) cs1 := I1.grown (same_new ndx)
    have np2 : upd H1 dx (.own p) p = none := by rw [upd_ne (Ne.symm ne)]; exact np
    have I3 := I2.snoc (p := p) (o := .ins C dx []) (co := .ins C [] []) np2 ⟨I1.same.free np, dx, [], upd_same, rfl, .nil⟩
    refine ⟨G1, _, _, _, X, I3, .cons (.raw _) (r1.append (Reps.of_raws dvs)), h1 p, fun v d cs2 G2 H2 e2 I4 r4 ⟨ed, h4⟩ => ?_, hE G1⟩
    subst ed
    exact ⟨r4.raw_inv, q (.ref p) _ cs2 G2 H2 (e1.trans e2) I4 (.raw _) h4⟩
/-- the last cell, an object, is handed on as data -/
theorem er_shareObj {R : RK} (h : Er K te Δ cs fun d cs1 => ∃ p C ns ds cs2, d = .raw (.ref p) ∧ cs1 = cs2 ++ [(p, .ins C ns ds)] ∧ R (.obj C ns ds) cs2) : Er K te Δ cs R := fun σ G H Q E I q =>
  h σ G H _ E I fun v d cs1 G1 H1 e1 I1 r1 ⟨p, C, ns, ds, cs2, ed, ec, h1⟩ => by
    subst ed ec
    have e : (cs2 ++ [(p, CO.ins C ns ds)])[cs2.length]? = some (p, .ins C ns ds) := by simp
    obtain ⟨gn, dx, fs, hp, hn, rs⟩ := I1.cell _ _ _ e
    obtain ⟨I2, s2⟩ := I1.share e hp gn
    have I3 := I2.take cs2.length
    rw [List.set_append_right _ _ (Nat.le_refl _), List.take_left'] at I3
    · have ev : v = .ref p := r1.raw_inv
      subst ev
      exact q (.ref p) (.obj C ns ds) cs2 _ H1 (e1.trans s2) I3 (.obj upd_same hn (rs.mono s2)) h1
    · rfl
theorem er_make {C : Addr} {F : Tr} {dvs : List V} {E : XK} {t : TA} (hE : ∀ G, XQ K G X E) (h : Ea K t Δ cs fun xs cs1 => ∀ p, F (.raw (.ref p) :: (xs ++ dvs.map D.raw)) (cs1 ++ [(p, .ins C [] [])]) (fun d cs2 => d = .non ∧ ∃ ns ds cs3, cs2 = cs3 ++ [(p, .ins C ns ds)] ∧ R (.obj C ns ds) cs3) X) : Er K (tMake C (spA K F) dvs E t) Δ cs R := fun σ G H Q Ev I q =>
  h σ G H _ Ev I fun vs xs cs1 G1 H1 e1 I1 r1 h1 => fun p dx np ndx ne => by
    have I2 : Own K G1 (upd H1 dx (.own p)) cs1 := I1.grown (same_new ndx)
    have np2 : upd H1 dx (.own p) p = none := by rw [upd_ne (Ne.symm ne)]; exact np
    have I3 := I2.snoc (p := p) (o := .ins C dx []) (co := .ins C [] []) np2 ⟨I1.same.free np, dx, [], upd_same, rfl, .nil⟩
    refine ⟨G1, _, _, _, X, I3, .cons (.raw _) (r1.append (Reps.of_raws dvs)), h1 p, fun v d cs2 G2 H2 e2 I4 r4 ⟨ed, ns, ds, cs3, ec, h4⟩ => ?_, hE G1⟩
    subst ed ec
    have e : (cs3 ++ [(p, CO.ins C ns ds)])[cs3.length]? = some (p, .ins C ns ds) := by simp
    obtain ⟨gn, dx, fs, hp, hn, rs⟩ := I4.cell _ _ _ e
    obtain ⟨I5, s5⟩ := I4.share e hp gn
    have I6 := I5.take cs3.length
    rw [List.set_append_right _ _ (Nat.le_refl _), List.take_left'] at I6
    · exact ⟨r4.raw_inv, q (.ref p) (.obj C ns ds) cs3 _ H2 ((e1.trans e2).trans s5) I6 (.obj upd_same hn (rs.mono s5)) h4⟩
    · rfl
/-! ### fields -/
def getN (f : Str) : List Str → List D → Option D
  | n :: ns, d :: ds => if f = n then some d else getN f ns ds
  | _, _ => none
theorem getN_lookup {f : Str} : ∀ {fs : List (Str × V)} {ds : List D} {d : D}, Reps K G (fs.map (·.2)) ds → getN f (fs.map (·.1)) ds = some d → ∃ v, fs.lookup f = some v ∧ Rep K G v d
  | [], _, _, _, e => by cases e
  | (n, v) :: fs, [], _, h, _ => by cases h
  | (n, v) :: fs, d :: ds, x, h, e => by
    cases h with
    | cons r rs =>
      have e : (if f = n then some d else getN f (fs.map (·.1)) ds) = some x := e
      by_cases hf : f = n
      · rw [if_pos hf] at e
        cases e
        have hb : (f == n) = true := beq_iff_eq.mpr hf
        exact ⟨v, by simp only [List.lookup, hb], r⟩
      · rw [if_neg hf] at e
        have hb : (f == n) = false := beq_eq_false_iff_ne.mpr hf
        obtain ⟨w, h1, h2⟩ := getN_lookup rs e
        exact ⟨w, by simp only [List.lookup, hb]; exact h1, h2⟩
theorem er_fld {f : Str} (h : Er K ta Δ cs fun x cs1 => ∃ C ns ds d, x = .obj C ns ds ∧ Cls K C ∧ NoAttr K C f ∧ getN f ns ds = some d ∧ R d cs1) : Er K (tFld K ta f) Δ cs R := fun σ G H Q E I q =>
  h σ G H _ E I fun v x cs1 G1 H1 e1 I1 r1 ⟨C, ns, ds, d, ex, hc, hn, hg, h1⟩ => by
    subst ex
    obtain ⟨p, dx, fs, rfl, hp, en, rs⟩ := r1.obj_inv
    subst en
    obtain ⟨w, hl, rw'⟩ := getN_lookup rs hg
    exact ⟨p, C, dx, fs, w, rfl, I1.same _ _ hp, hc, hn, hl, (q.mono e1).now I1 rw' h1⟩
theorem er_fldC {f : Str} (h : Er K ta Δ cs fun x cs1 => ∃ (p : Addr) (i : Nat) (C : Addr) (ns : List Str) (ds : List D) (d : D), x = .raw (.ref p) ∧ cs1[i]? = some (p, CO.ins C ns ds) ∧ Cls K C ∧ NoAttr K C f ∧ getN f ns ds = some d ∧ R d cs1) : Er K (tFld K ta f) Δ cs R := fun σ G H Q E I q =>
  h σ G H _ E I fun v x cs1 G1 H1 e1 I1 r1 ⟨p, i, C, ns, ds, d, ex, hci, hc, hn, hg, h1⟩ => by
    subst ex
    obtain ⟨gn, dx, fs, hp, en, rs⟩ := I1.cell i p _ hci
    subst en
    obtain ⟨w, hl, rw'⟩ := getN_lookup rs hg
    exact ⟨p, C, dx, fs, w, r1.raw_inv, hp, hc, hn, hl, (q.mono e1).now I1 rw' h1⟩
theorem putF_new {f : Str} {v : V} : ∀ {fs : List (Str × V)}, f ∉ fs.map (·.1) → putF f v fs = fs ++ [(f, v)]
  | [], _ => rfl
  | (n, w) :: fs, h => by
    have h1 : n ≠ f := fun e => h (by rw [← e]; exact List.mem_cons_self ..)
    show (if n = f then (n, v) :: fs else (n, w) :: putF f v fs) = (n, w) :: (fs ++ [(f, v)])
    rw [if_neg h1, putF_new fun z => h (List.mem_cons_of_mem _ z)]
/-- a new field of an owned object -/
theorem xs_fldNew {f : Str} {tv : TE} {A : AE} (h : Er K tv Δ cs fun d cs1 => Er K ta Δ cs1 fun x cs2 => ∃ (p : Addr) (i : Nat) (C : Addr) (ns : List Str) (ds : List D), x = .raw (.ref p) ∧ cs2[i]? = some (p, CO.ins C ns ds) ∧ Cls K C ∧ NoAttr K C f ∧ ns.length < 1000 ∧ f ∉ ns ∧ A.nx Δ (cs2.set i (p, .ins C (ns ++ [f]) (ds ++ [d])))) : Xs K (sFld K ta tv f) A Δ cs := fun σ G H D E I q =>
  h σ G H _ E I fun v d cs1 G1 H1 e1 I1 r1 h1 => h1 σ G1 H1 _ (E.mono e1) I1 fun w x cs2 G2 H2 e2 I2 r2 ⟨p, i, C, ns, ds, ex, hci, hc, hn, hl, hf, h2⟩ => by
    subst ex
    obtain ⟨gn, dx, fs, hp, en, rs⟩ := I2.cell i p _ hci
    subst en
    have e3 : putF f v fs = fs ++ [(f, v)] := putF_new hf
    refine ⟨p, C, dx, fs, r2.raw_inv, hp, hc, hn, by simpa using hl, ?_⟩
    rw [e3]
    refine q.nx σ Δ _ G2 _ (e1.trans e2) (E.mono (e1.trans e2)) (I2.put (co' := .ins C (fs.map (·.1) ++ [f]) (ds ++ [d])) hci gn ⟨gn, dx, _, upd_same, by simp, ?_⟩) h2
    rw [List.map_append]
    exact rs.append (.cons (r1.mono e2) .nil)
end
end L3

/-! L3d -/
set_option maxHeartbeats 4000000
namespace L3
open PySem L2
section
variable {K : PySem.W.Frag} {G G' H H' : Hp} {σ : L2.St} {Δ : Env} {cs : Cells} {R : RK} {ta tb tc te to : TE} {d x y : D} {ds es : List D} {A : AE} {t : TA}
/-! ### operators -/
theorem o2_I0 {g : Int → Int → V} {i j : Int} (h : R (.raw (g i j)) cs) : O2 K (rI0 g) (.int i) (.int j) cs R := fun v w G H Q rv rw' I q => ⟨i, j, rv.raw_inv, rw'.raw_inv, q.now I (.raw _) h⟩
theorem o2_I {C : Int → Int → Prop} {g : Int → Int → V} {i j : Int} (hc : C i j) (h : R (.raw (g i j)) cs) : O2 K (rI C g) (.int i) (.int j) cs R := fun v w G H Q rv rw' I q => ⟨i, j, rv.raw_inv, rw'.raw_inv, hc, q.now I (.raw _) h⟩
theorem o1_U {g : Int → V} {i : Int} (h : R (.raw (g i)) cs) : O1 K (rU g) (.int i) cs R := fun v G H Q rv I q => ⟨i, rv.raw_inv, q.now I (.raw _) h⟩
theorem o2_eq {v w : V} (hs : scal v w = true) (h : R (.bl (decide (v = w))) cs) : O2 K rEq (.raw v) (.raw w) cs R := fun a b G H Q ra rb I q => by
  rw [ra.raw_inv, rb.raw_inv]
  exact ⟨hs, q.now I (.raw _) h⟩
theorem o2_ne {v w : V} (hs : scal v w = true) (h : R (.bl (!decide (v = w))) cs) : O2 K rNe (.raw v) (.raw w) cs R := fun a b G H Q ra rb I q => by
  rw [ra.raw_inv, rb.raw_inv]
  exact ⟨hs, q.now I (.raw _) h⟩
theorem dec_congr {p q : Prop} [Decidable p] [Decidable q] (h : p ↔ q) : decide p = decide q := by
  by_cases hp : p
  · rw [decide_eq_true hp, decide_eq_true (h.mp hp)]
  · rw [decide_eq_false hp, decide_eq_false fun z => hp (h.mpr z)]
theorem o2_eqI {i j : Int} (h : R (.bl (decide (i = j))) cs) : O2 K rEq (.int i) (.int j) cs R := o2_eq rfl (by
  rw [dec_congr (show V.int i = V.int j ↔ i = j from ⟨V.int.inj, congrArg _⟩)]
  exact h)
theorem o2_neI {i j : Int} (h : R (.bl (!decide (i = j))) cs) : O2 K rNe (.int i) (.int j) cs R := o2_ne rfl (by
  rw [dec_congr (show V.int i = V.int j ↔ i = j from ⟨V.int.inj, congrArg _⟩)]
  exact h)
theorem o2_eqT {i j : Str} (h : R (.bl (decide (i = j))) cs) : O2 K rEq (.str i) (.str j) cs R := o2_eq rfl (by
  rw [dec_congr (show V.str i = V.str j ↔ i = j from ⟨V.str.inj, congrArg _⟩)]
  exact h)
theorem o2_neT {i j : Str} (h : R (.bl (!decide (i = j))) cs) : O2 K rNe (.str i) (.str j) cs R := o2_ne rfl (by
  rw [dec_congr (show V.str i = V.str j ↔ i = j from ⟨V.str.inj, congrArg _⟩)]
  exact h)
theorem o2_eqB {i j : Bool} (h : R (.bl (decide (i = j))) cs) : O2 K rEq (.bl i) (.bl j) cs R := o2_eq rfl (by
  rw [dec_congr (show V.bl i = V.bl j ↔ i = j from ⟨V.bl.inj, congrArg _⟩)]
  exact h)
theorem o2_neB {i j : Bool} (h : R (.bl (!decide (i = j))) cs) : O2 K rNe (.bl i) (.bl j) cs R := o2_ne rfl (by
  rw [dec_congr (show V.bl i = V.bl j ↔ i = j from ⟨V.bl.inj, congrArg _⟩)]
  exact h)
theorem reps_atI {vs : List V} (r : Reps K G vs ds) {i : Int} (h : atI ds i = some d) : ∃ v, atI vs i = some v ∧ Rep K G v d := by
  unfold atI at h ⊢
  rw [r.length]
  cases e : ixN ds.length i with
  | none => rw [e] at h; cases h
  | some j =>
    rw [e] at h
    exact r.get h
theorem o2_ixL {i : Int} (ha : atI ds i = some d) (h : R d cs) : O2 K (rIxL K) (.lst ds) (.int i) cs R := fun v w G H Q rv rw' I q => by
  obtain ⟨p, vs, rfl, hp, rs⟩ := rv.lst_inv
  obtain ⟨z, h1, h2⟩ := reps_atI rs ha
  exact ⟨p, vs, i, z, rfl, rw'.raw_inv, I.same.seq hp, h1, q.now I h2 h⟩
theorem o2_ixR {i : Int} (ha : atI ds i = some d) (h : R d cs) : O2 K (rIxL K) (.ro ds) (.int i) cs R := fun v w G H Q rv rw' I q => by
  obtain ⟨p, vs, rfl, hp, rs⟩ := rv.ro_inv
  obtain ⟨z, h1, h2⟩ := reps_atI rs ha
  exact ⟨p, vs, i, z, rfl, rw'.raw_inv, I.same.seq hp, h1, q.now I h2 h⟩
theorem o2_ixC {i : Int} {p : Addr} {k : Nat} (hc : cs[k]? = some (p, CO.lst ds)) (ha : atI ds i = some d) (h : R d cs) : O2 K (rIxL K) (.raw (.ref p)) (.int i) cs R := fun v w G H Q rv rw' I q => by
  obtain ⟨_, vs, hp, rs⟩ := I.lst hc
  obtain ⟨z, h1, h2⟩ := reps_atI rs ha
  exact ⟨p, vs, i, z, rv.raw_inv, rw'.raw_inv, .inl (.inl hp), h1, q.now I h2 h⟩
theorem o2_ixT {i : Int} (ha : atI ds i = some d) (h : R d cs) : O2 K (rIxT K) (.tup ds) (.int i) cs R := fun v w G H Q rv rw' I q => by
  obtain ⟨p, vs, rfl, hp, rs⟩ := rv.tup_inv
  obtain ⟨z, h1, h2⟩ := reps_atI rs ha
  exact ⟨p, vs, i, z, rfl, rw'.raw_inv, seqT I.same hp, h1, q.now I h2 h⟩
theorem o2_ixS {i : Int} {z : Str} {c : Nat} (hz : z.length ≤ sizeLine) (ha : atI z.cps.toList i = some c) (h : R (.str ⟨#[c]⟩) cs) : O2 K rIxS (.str z) (.int i) cs R := fun v w G H Q rv rw' I q =>
  ⟨z, i, c, rv.raw_inv, rw'.raw_inv, hz, ha, q.now I (.raw _) h⟩
theorem atI_of {α : Type} {xs : List α} {i : Int} {j : Nat} {v : α} (e : i = (j : Int)) (h : xs[j]? = some v) : atI xs i = some v := by
  rw [e]
  exact atI_nat h
theorem o2_addS {i j : Str} (hl : i.length + j.length ≤ sizeLine) (h : R (.str (i ++ j)) cs) : O2 K (fun x y H Q => ∃ i j, x = V.str i ∧ y = V.str j ∧ i.length + j.length ≤ sizeLine ∧ Q (V.str (i ++ j)) H) (.str i) (.str j) cs R := fun v w G H Q rv rw' I q =>
  ⟨i, j, rv.raw_inv, rw'.raw_inv, hl, q.now I (.raw _) h⟩
/-- x in a list or tuple of flat values -/
theorem o2_inT {neg : Bool} {v : V} {ws : List V} (h1 : flatV v = true) (h2 : ws.all flatV = true) (h : R (.bl (if neg then !inV v ws else inV v ws)) cs) : O2 K (rIn K neg) (.raw v) (.tup (ws.map D.raw)) cs R := fun a b G H Q ra rb I q => by
  obtain ⟨p, vs, rfl, hp, rs⟩ := rb.tup_inv
  have ea := ra.raw_inv
  have ev := Reps.raws rs
  subst ea ev
  exact ⟨p, _, rfl, .inr (seqT I.same hp), h1, h2, q.now I (.raw _) h⟩
theorem o2_inL {neg : Bool} {v : V} {ws : List V} (h1 : flatV v = true) (h2 : ws.all flatV = true) (h : R (.bl (if neg then !inV v ws else inV v ws)) cs) : O2 K (rIn K neg) (.raw v) (.lst (ws.map D.raw)) cs R := fun a b G H Q ra rb I q => by
  obtain ⟨p, vs, rfl, hp, rs⟩ := rb.lst_inv
  have ea := ra.raw_inv
  have ev := Reps.raws rs
  subst ea ev
  exact ⟨p, _, rfl, .inl (I.same.seq hp), h1, h2, q.now I (.raw _) h⟩
/-- two lists, glued -/
theorem o2_cat (hl : ds.length + es.length ≤ sizeLine) (h : R (.lst (ds ++ es)) cs) : O2 K rCat (.lst ds) (.lst es) cs R := fun v w G H Q rv rw' I q => by
  obtain ⟨p, vs, rfl, hp, rs⟩ := rv.lst_get
  obtain ⟨p2, ws, rfl, hp2, rs2⟩ := rw'.lst_get
  refine ⟨p, p2, vs, ws, rfl, rfl, I.same _ _ hp, I.same _ _ hp2, by rw [rs.length, rs2.length]; exact hl, fun u n => ?_⟩
  have n' := I.same.free n
  exact q (.ref u) _ cs _ _ (same_new n') (I.fresh n) (.lst upd_same ((rs.append rs2).mono (same_new n'))) h
/-! ### slices -/
def Eo (K : PySem.W.Frag) (t : L2.TO) (Δ : Env) (cs : Cells) (R : Option Int → Cells → Prop) : Prop := ∀ σ G H Q, RepE K G σ Δ → Own K G H cs → (∀ o cs' G' H', Same G G' → Own K G' H' cs' → R o cs' → Q o H') → t σ H Q
theorem eo_none {R : Option Int → Cells → Prop} (h : R none cs) : Eo K tNoPart Δ cs R := fun σ G H Q E I q => q none cs G H (Same.refl G) I h
theorem eo_some {R : Option Int → Cells → Prop} (h : Er K te Δ cs fun d cs1 => ∃ i, d = .int i ∧ R (some i) cs1) : Eo K (tPart te) Δ cs R := fun σ G H Q E I q =>
  h σ G H _ E I fun v d cs1 G1 H1 e1 I1 r1 ⟨i, ed, h1⟩ => by
    subst ed
    exact ⟨i, r1.raw_inv, q (some i) cs1 G1 H1 e1 I1 h1⟩
theorem er_slS {lo hi : L2.TO} (h : Er K te Δ cs fun d cs1 => ∃ z, d = .str z ∧ z.length ≤ sizeLine ∧ Eo K lo Δ cs1 fun l cs2 => Eo K hi Δ cs2 fun u cs3 => R (.str (cutS z l u)) cs3) : Er K (tSl rSlS te lo hi) Δ cs R := fun σ G H Q E I q =>
  h σ G H _ E I fun v d cs1 G1 H1 e1 I1 r1 ⟨z, ed, hz, h1⟩ => by
    subst ed
    refine h1 σ G1 H1 _ (E.mono e1) I1 fun l cs2 G2 H2 e2 I2 h2 => h2 σ G2 H2 _ ((E.mono e1).mono e2) I2 fun u cs3 G3 H3 e3 I3 h3 => ?_
    exact ⟨z, r1.raw_inv, hz, q _ _ cs3 G3 H3 ((e1.trans e2).trans e3) I3 (.raw _) h3⟩
def cutD (xs : List D) (lo hi : Option Int) : List D := (xs.drop (HT.sIx xs.length 0 lo)).take (HT.sIx xs.length xs.length hi - HT.sIx xs.length 0 lo)
theorem Reps.cut {vs : List V} (r : Reps K G vs ds) (lo hi : Option Int) : Reps K G (cutV vs lo hi) (cutD ds lo hi) := by
  unfold cutV cutD
  rw [r.length]
  exact (r.drop _).take _
theorem er_slL {lo hi : L2.TO} (h : Er K te Δ cs fun d cs1 => ∃ ds, d = .lst ds ∧ Eo K lo Δ cs1 fun l cs2 => Eo K hi Δ cs2 fun u cs3 => R (.lst (cutD ds l u)) cs3) : Er K (tSl (rSlL K) te lo hi) Δ cs R := fun σ G H Q E I q =>
  h σ G H _ E I fun v d cs1 G1 H1 e1 I1 r1 ⟨ds, ed, h1⟩ => by
    subst ed
    refine h1 σ G1 H1 _ (E.mono e1) I1 fun l cs2 G2 H2 e2 I2 h2 => h2 σ G2 H2 _ ((E.mono e1).mono e2) I2 fun u cs3 G3 H3 e3 I3 h3 => ?_
    obtain ⟨p, vs, rfl, hp, rs⟩ := ((r1.mono e2).mono e3).lst_inv
    refine ⟨p, vs, rfl, I3.same.seq hp, fun w n => ?_⟩
    have n' := I3.same.free n
    exact q (.ref w) _ cs3 _ _ (((e1.trans e2).trans e3).trans (same_new n')) (I3.fresh n) (.lst upd_same ((rs.cut l u).mono (same_new n'))) h3
/-! ### built-ins -/
theorem reps1 {vs : List V} (r : Reps K G vs [x]) : ∃ v, vs = [v] ∧ Rep K G v x := by
  cases r with
  | cons a b => cases b; exact ⟨_, rfl, a⟩
theorem reps2 {vs : List V} (r : Reps K G vs [x, y]) : ∃ v w, vs = [v, w] ∧ Rep K G v x ∧ Rep K G w y := by
  cases r with
  | cons a b =>
    obtain ⟨w, rfl, h⟩ := reps1 b
    exact ⟨_, w, rfl, a, h⟩
def rLenX (K : PySem.W.Frag) : List V → Hp → VK → Prop := fun xs H Q => ∃ x n, xs = [x] ∧ LenV K x H n ∧ Q (.int n) H
theorem call_lenX {X : Cx} : CallR X (.builtin "len") (rLenX X.K) := call_len
theorem oa_lenS {z : Str} (hz : z.length ≤ sizeLine) (h : R (.int (z.length : Nat)) cs) : Oa K (rLenX K) [.str z] cs R := fun vs G H Q r I q => by
  obtain ⟨v, rfl, rv⟩ := reps1 r
  rw [rv.raw_inv]
  exact ⟨_, z.length, rfl, ⟨hz, rfl⟩, q.now I (.raw _) h⟩
theorem oa_lenL (h : R (.int (ds.length : Nat)) cs) : Oa K (rLenX K) [.lst ds] cs R := fun vs G H Q r I q => by
  obtain ⟨v, rfl, rv⟩ := reps1 r
  obtain ⟨p, ws, rfl, hp, rs⟩ := rv.lst_inv
  exact ⟨_, ds.length, rfl, .inl ⟨ws, I.same.seq hp, rs.length.symm⟩, q.now I (.raw _) h⟩
theorem oa_lenR (h : R (.int (ds.length : Nat)) cs) : Oa K (rLenX K) [.ro ds] cs R := fun vs G H Q r I q => by
  obtain ⟨v, rfl, rv⟩ := reps1 r
  obtain ⟨p, ws, rfl, hp, rs⟩ := rv.ro_inv
  exact ⟨_, ds.length, rfl, .inl ⟨ws, I.same.seq hp, rs.length.symm⟩, q.now I (.raw _) h⟩
theorem oa_lenT (h : R (.int (ds.length : Nat)) cs) : Oa K (rLenX K) [.tup ds] cs R := fun vs G H Q r I q => by
  obtain ⟨v, rfl, rv⟩ := reps1 r
  obtain ⟨p, ws, rfl, hp, rs⟩ := rv.tup_inv
  exact ⟨_, ds.length, rfl, .inr ⟨ws, seqT I.same hp, rs.length.symm⟩, q.now I (.raw _) h⟩
theorem oa_lenC {p : Addr} {k : Nat} (hc : cs[k]? = some (p, CO.lst ds)) (h : R (.int (ds.length : Nat)) cs) : Oa K (rLenX K) [.raw (.ref p)] cs R := fun vs G H Q r I q => by
  obtain ⟨v, rfl, rv⟩ := reps1 r
  rw [rv.raw_inv]
  obtain ⟨_, ws, hp, rs⟩ := I.lst hc
  exact ⟨_, ds.length, rfl, .inl ⟨ws, .inl (.inl hp), rs.length.symm⟩, q.now I (.raw _) h⟩
/-- reads of ints alone -/
theorem oa_I1 {r : List V → Hp → VK → Prop} {i : Int} {w : V} (hr : ∀ H Q, Q w H → r [.int i] H Q) (h : R (.raw w) cs) : Oa K r [.int i] cs R := fun vs G H Q rs I q => by
  obtain ⟨v, rfl, rv⟩ := reps1 rs
  rw [rv.raw_inv]
  exact hr H Q (q.now I (.raw _) h)
theorem oa_V1 {r : List V → Hp → VK → Prop} {v w : V} (hr : ∀ H Q, Q w H → r [v] H Q) (h : R (.raw w) cs) : Oa K r [.raw v] cs R := fun vs G H Q rs I q => by
  obtain ⟨v', rfl, rv⟩ := reps1 rs
  rw [rv.raw_inv]
  exact hr H Q (q.now I (.raw _) h)
theorem oa_V2 {r : List V → Hp → VK → Prop} {u v w : V} (hr : ∀ H Q, Q w H → r [u, v] H Q) (h : R (.raw w) cs) : Oa K r [.raw u, .raw v] cs R := fun vs G H Q rs I q => by
  obtain ⟨u', v', rfl, ru, rv⟩ := reps2 rs
  rw [ru.raw_inv, rv.raw_inv]
  exact hr H Q (q.now I (.raw _) h)
theorem oa_all {bs : List Bool} (h : R (.bl (bs.all id)) cs) : Oa K (rAll K) [.lst (bs.map D.bl)] cs R := fun vs G H Q r I q => by
  obtain ⟨v, rfl, rv⟩ := reps1 r
  obtain ⟨p, ws, rfl, hp, rs⟩ := rv.lst_inv
  have e : bs.map D.bl = (bs.map V.bl).map D.raw := by rw [List.map_map]; rfl
  rw [e] at rs
  rw [Reps.raws rs] at hp
  exact ⟨p, bs, rfl, I.same.seq hp, q.now I (.raw _) h⟩
/-! ### what type a value has -/
inductive TyD (K : PySem.W.Frag) : D → String → Prop
  | non : TyD K .non "NoneType"
  | bl (b : Bool) : TyD K (.bl b) "bool"
  | int (i : Int) : TyD K (.int i) "int"
  | str (s : Str) : TyD K (.str s) "str"
  | lst (ds : List D) : TyD K (.lst ds) "list"
  | tup (ds : List D) : TyD K (.tup ds) "tuple"
theorem TyD.tyx {n : String} (h : TyD K d n) {v : V} (r : Rep K G v d) (s : Same G H) : TyX K H v (.type n) := by
  cases h with
  | non => rw [r.raw_inv]; exact .base .non
  | bl b => rw [r.raw_inv]; exact .base (.bl b)
  | int i => rw [r.raw_inv]; exact .base (.int i)
  | str i => rw [r.raw_inv]; exact .base (.str i)
  | lst ds =>
    obtain ⟨p, vs, rfl, hp, rs⟩ := r.lst_get
    exact .base (.lst (s _ _ hp))
  | tup ds =>
    obtain ⟨p, vs, rfl, hp, rs⟩ := r.tup_inv
    rcases seqT s hp with (h | ⟨o, h⟩) | ⟨o, its, n, h, hc, _⟩
    · exact .base (.tup h)
    · exact .fTuple h
    · exact .kTuple h hc
theorem oa_isi {n c : String} {b : Bool} (hd : TyD K d n) (hb : kitB n c = some b) (h : R (.bl b) cs) : Oa K (rIsi K) [d, .raw (.ty c)] cs R := fun vs G H Q r I q => by
  obtain ⟨v, w, rfl, rv, rw'⟩ := reps2 r
  rw [rw'.raw_inv]
  exact ⟨v, .ty c, .type n, .type c, b, rfl, .ty c, hd.tyx rv I.same, kit_ty hb, q.now I (.raw _) h⟩
/-- isinstance(x, (list, tuple)) -/
theorem er_isi2 {c1 c2 n : String} {b1 b2 : Bool} (h : Er K te Δ cs fun d cs1 => TyD K d n ∧ kitB n c1 = some b1 ∧ kitB n c2 = some b2 ∧ R (.bl (b1 || b2)) cs1) : Er K (tCB (rIsiT K) (tCons te (tCons (tTup (tCons (tC (.ty c1)) (tCons (tC (.ty c2)) tNil))) tNil))) Δ cs R := fun σ G H Q E I q =>
  h σ G H _ E I fun v d cs1 G1 H1 e1 I1 r1 ⟨hd, h1, h2, hR⟩ => ⟨by show 2 ≤ sizeLine; decide, fun p n => by
    have n' := I1.same.free n
    refine ⟨v, p, [.ty c1, .ty c2], _, [.type c1, .type c2], b1 || b2, rfl, upd_same, .cons (.ty c1) (.cons (.ty c2) .nil), hd.tyx r1 (I1.same.trans (same_new n)), ?_, (q.mono e1) (.bl (b1 || b2)) (.bl (b1 || b2)) cs1 _ _ (same_new (o := .tup [.ty c1, .ty c2]) n') (I1.fresh n) (.raw _) hR⟩
    refine kitAny_cons (kit_ty h1) (fun e => ?_) (fun e => by rw [e]; rfl)
    rw [e, Bool.false_or]
    refine kitAny_cons (kit_ty h2) (fun e => ?_) (fun e => e)
    rw [e]
    exact kitAny_nil⟩
/-! ### methods of built-in types -/
theorem er_bmS {r : V → List V → Hp → VK → Prop} (h : Er K to Δ cs fun d cs1 => ∃ z, d = .str z ∧ Ea K t Δ cs1 fun xs cs2 => ∀ vs G H Q, Reps K G vs xs → Own K G H cs2 → RQ K G R Q → r (.str z) vs H Q) : Er K (tBM K "str" r to t) Δ cs R := fun σ G H Q E I q =>
  h σ G H _ E I fun v d cs1 G1 H1 e1 I1 r1 ⟨z, ed, h1⟩ => by
    subst ed
    rw [r1.raw_inv]
    exact ⟨rfl, h1 σ G1 H1 _ (E.mono e1) I1 fun vs xs cs2 G2 H2 e2 I2 r2 h2 => h2 vs G2 H2 Q r2 I2 (q.mono (e1.trans e2))⟩
/-- x.append(y) -/
theorem er_app {tf : TE} (h : Er K to Δ cs fun x cs1 => ∃ (p : Addr) (k : Nat) (ds : List D), x = .raw (.ref p) ∧ cs1[k]? = some (p, CO.lst ds) ∧
    Er K te Δ cs1 fun d cs2 => ∃ ds2 : List D, cs2[k]? = some (p, CO.lst ds2) ∧ ds2.length < sizeLine ∧ R .non (cs2.set k (p, .lst (ds2 ++ [d])))) : Er K (tBM K "list" rAppend to (tCons te tNil)) Δ cs R := fun σ G H Q E I q =>
  h σ G H _ E I fun v x cs1 G1 H1 e1 I1 r1 ⟨p, k, ds, ex, hc, h1⟩ => by
    subst ex
    have ev := r1.raw_inv
    subst ev
    obtain ⟨_, vs, hp, rs⟩ := I1.lst hc
    refine ⟨.inl ⟨rfl, vs, .inl (.inl hp)⟩, h1 σ G1 H1 _ (E.mono e1) I1 fun w d cs2 G2 H2 e2 I2 r2 ⟨ds2, hc2, hl, h2⟩ => ?_⟩
    obtain ⟨gn, vs2, hp2, rs2⟩ := I2.lst hc2
    refine ⟨p, vs2, w, rfl, rfl, hp2, by rw [rs2.length]; exact hl, ?_⟩
    exact q .non .non _ G2 _ (e1.trans e2) (I2.put (co' := .lst (ds2 ++ [d])) hc2 gn ⟨gn, _, upd_same, rs2.append (.cons r2 .nil)⟩) (.raw _) h2
/-- x[i] = y -/
theorem gg_sub {ti : TE} {N : Env → Cells → Prop} (h : Er K to Δ cs fun x cs1 => Er K ti Δ cs1 fun y cs2 => ∃ (p : Addr) (k : Nat) (ds : List D) (i : Int) (j : Nat), x = .raw (.ref p) ∧ y = .int i ∧ cs2[k]? = some (p, CO.lst ds) ∧ ixN ds.length i = some j ∧ N Δ (cs2.set k (p, .lst (ds.set j d)))) :
    Gg K (gSub to ti rSetL) d Δ cs N := fun v σ G H Q E I r q =>
  h σ G H _ E I fun w x cs1 G1 H1 e1 I1 r1 h1 => h1 σ G1 H1 _ (E.mono e1) I1 fun u y cs2 G2 H2 e2 I2 r2 ⟨p, k, ds, i, j, ex, ey, hc, hj, h2⟩ => by
    subst ex ey
    have ew := r1.raw_inv
    have eu := r2.raw_inv
    subst ew eu
    obtain ⟨gn, vs, hp, rs⟩ := I2.lst hc
    refine ⟨p, vs, i, j, rfl, rfl, hp, by rw [rs.length]; exact hj, ?_⟩
    exact q σ Δ _ G2 _ (e1.trans e2) ((E.mono e1).mono e2) (I2.put (co' := .lst (ds.set j d)) hc gn ⟨gn, _, upd_same, rs.set ((r.mono e1).mono e2) j⟩) h2
/-- a, b = x, y -/
theorem xs_par {i j : Nat} (h : Ea K t Δ cs fun xs cs1 => ∃ x y, xs = [x, y] ∧ A.nx ((Δ.set i (some x)).set j (some y)) cs1) : Xs K (tPar i j t) A Δ cs := fun σ G H D E I q =>
  h σ G H _ E I fun vs xs cs1 G1 H1 e1 I1 r1 ⟨x, y, ex, h1⟩ => by
    subst ex
    obtain ⟨v, w, rfl, rv, rw'⟩ := reps2 r1
    exact ⟨v, w, rfl, q.nx _ _ cs1 G1 H1 e1 (((E.mono e1).set rv i).set rw' j) I1 h1⟩
/-- ''.join(xs), the texts a list -/
def rJoin (K : PySem.W.Frag) : V → List V → Hp → VK → Prop := fun x xs H Q => ∃ a p, ∃ ys : List Str, x = .str a ∧ xs = [.ref p] ∧ (SqL K H p (ys.map V.str) ∨ SqT K H p (ys.map V.str)) ∧
  (ys.map (·.length)).sum + ys.length * a.length ≤ 16777216 ∧ Q (.str (Txt.join a ys)) H
theorem er_join (h : Er K to Δ cs fun x cs1 => ∃ a, x = .str a ∧ Er K te Δ cs1 fun y cs2 => ∃ ys : List Str, y = .lst (ys.map D.str) ∧ (ys.map (·.length)).sum + ys.length * a.length ≤ 16777216 ∧ R (.str (Txt.join a ys)) cs2) : Er K (tM1 (rJoin K) to te) Δ cs R := fun σ G H Q E I q =>
  h σ G H _ E I fun v x cs1 G1 H1 e1 I1 r1 ⟨a, ex, h1⟩ => by
    subst ex
    have ev := r1.raw_inv
    subst ev
    refine ⟨⟨a, rfl⟩, h1 σ G1 H1 _ (E.mono e1) I1 fun w y cs2 G2 H2 e2 I2 r2 ⟨ys, ey, hz, h2⟩ => ?_⟩
    subst ey
    obtain ⟨p, vs, rfl, hp, rs⟩ := r2.lst_inv
    have e : ys.map D.str = (ys.map V.str).map D.raw := by rw [List.map_map]; rfl
    rw [e] at rs
    have ev := Reps.raws rs
    subst ev
    exact ⟨a, p, ys, rfl, rfl, .inl (I2.same.seq hp), hz, (q.mono (e1.trans e2)).now I2 (.raw _) h2⟩
theorem pe_joinJ {X : Cx} {o e : Expr} {to te : TE} {apos pos : Pos} (ho : PE X o to) (he : PE X e te) (hs : starEach [e] X.env = [(false, eval e X.env)] := by rfl) (hbase : attributeBase o "join" X.env (eval o X.env) = eval o X.env := by rfl) (hline : (apos.endLine == pos.line) = true := by rfl) :
    PE X (.Call (.Attribute o "join" apos) [e] [] pos) (tM1 (rJoin X.K) to te) := pe_join ho he hs hbase hline
end
end L3

/-! L3e -/
set_option maxHeartbeats 4000000
namespace L3
open PySem L2
section
variable {K : PySem.W.Frag} {cs : Cells} {R : RK} {d : D} {n : String}
def isIntD : D → Bool
  | .raw (.int _) => true
  | .raw (.bl _) => true
  | _ => false
def isBoolD : D → Bool
  | .raw (.bl _) => true
  | _ => false
def isStrD : D → Bool
  | .raw (.str _) => true
  | _ => false
def isListD : D → Bool
  | .lst _ => true
  | _ => false
def isTupD : D → Bool
  | .tup _ => true
  | _ => false
theorem ki0 : kitB "NoneType" "int" = some false := by decide +kernel
theorem ki1 : kitB "bool" "int" = some true := by decide +kernel
theorem ki2 : kitB "int" "int" = some true := by decide +kernel
theorem ki3 : kitB "str" "int" = some false := by decide +kernel
theorem ki4 : kitB "list" "int" = some false := by decide +kernel
theorem ki5 : kitB "tuple" "int" = some false := by decide +kernel
theorem kb0 : kitB "NoneType" "bool" = some false := by decide +kernel
theorem kb1 : kitB "bool" "bool" = some true := by decide +kernel
theorem kb2 : kitB "int" "bool" = some false := by decide +kernel
theorem kb3 : kitB "str" "bool" = some false := by decide +kernel
theorem kb4 : kitB "list" "bool" = some false := by decide +kernel
theorem kb5 : kitB "tuple" "bool" = some false := by decide +kernel
theorem ks0 : kitB "NoneType" "str" = some false := by decide +kernel
theorem ks1 : kitB "bool" "str" = some false := by decide +kernel
theorem ks2 : kitB "int" "str" = some false := by decide +kernel
theorem ks3 : kitB "str" "str" = some true := by decide +kernel
theorem ks4 : kitB "list" "str" = some false := by decide +kernel
theorem ks5 : kitB "tuple" "str" = some false := by decide +kernel
theorem kl0 : kitB "NoneType" "list" = some false := by decide +kernel
theorem kl1 : kitB "bool" "list" = some false := by decide +kernel
theorem kl2 : kitB "int" "list" = some false := by decide +kernel
theorem kl3 : kitB "str" "list" = some false := by decide +kernel
theorem kl4 : kitB "list" "list" = some true := by decide +kernel
theorem kl5 : kitB "tuple" "list" = some false := by decide +kernel
theorem kt0 : kitB "NoneType" "tuple" = some false := by decide +kernel
theorem kt1 : kitB "bool" "tuple" = some false := by decide +kernel
theorem kt2 : kitB "int" "tuple" = some false := by decide +kernel
theorem kt3 : kitB "str" "tuple" = some false := by decide +kernel
theorem kt4 : kitB "list" "tuple" = some false := by decide +kernel
theorem kt5 : kitB "tuple" "tuple" = some true := by decide +kernel
theorem kit_int (t : TyD K d n) : kitB n "int" = some (isIntD d) := by
  cases t with
  | non => exact ki0
  | bl => exact ki1
  | int => exact ki2
  | str => exact ki3
  | lst => exact ki4
  | tup => exact ki5
theorem kit_bool (t : TyD K d n) : kitB n "bool" = some (isBoolD d) := by
  cases t with
  | non => exact kb0
  | bl => exact kb1
  | int => exact kb2
  | str => exact kb3
  | lst => exact kb4
  | tup => exact kb5
theorem kit_str (t : TyD K d n) : kitB n "str" = some (isStrD d) := by
  cases t with
  | non => exact ks0
  | bl => exact ks1
  | int => exact ks2
  | str => exact ks3
  | lst => exact ks4
  | tup => exact ks5
theorem kit_list (t : TyD K d n) : kitB n "list" = some (isListD d) := by
  cases t with
  | non => exact kl0
  | bl => exact kl1
  | int => exact kl2
  | str => exact kl3
  | lst => exact kl4
  | tup => exact kl5
theorem kit_tup (t : TyD K d n) : kitB n "tuple" = some (isTupD d) := by
  cases t with
  | non => exact kt0
  | bl => exact kt1
  | int => exact kt2
  | str => exact kt3
  | lst => exact kt4
  | tup => exact kt5
theorem oa_isInt (t : TyD K d n) (h : R (.bl (isIntD d)) cs) : Oa K (rIsi K) [d, .raw (.ty "int")] cs R := oa_isi t (kit_int t) h
theorem oa_isBool (t : TyD K d n) (h : R (.bl (isBoolD d)) cs) : Oa K (rIsi K) [d, .raw (.ty "bool")] cs R := oa_isi t (kit_bool t) h
theorem oa_isStr (t : TyD K d n) (h : R (.bl (isStrD d)) cs) : Oa K (rIsi K) [d, .raw (.ty "str")] cs R := oa_isi t (kit_str t) h
theorem oa_isList (t : TyD K d n) (h : R (.bl (isListD d)) cs) : Oa K (rIsi K) [d, .raw (.ty "list")] cs R := oa_isi t (kit_list t) h
theorem oa_isTup (t : TyD K d n) (h : R (.bl (isTupD d)) cs) : Oa K (rIsi K) [d, .raw (.ty "tuple")] cs R := oa_isi t (kit_tup t) h
theorem er_isSeq {te : TE} {Δ : Env} (h : Er K te Δ cs fun d cs1 => ∃ n, TyD K d n ∧ R (.bl (isListD d || isTupD d)) cs1) : Er K (tCB (rIsiT K) (tCons te (tCons (tTup (tCons (tC (.ty "list")) (tCons (tC (.ty "tuple")) tNil))) tNil))) Δ cs R := by
  intro σ G H Q E I q
  refine h σ G H _ E I fun v d cs1 G1 H1 e1 I1 r1 ⟨n, ty, hR⟩ => ?_
  refine ⟨by show 2 ≤ sizeLine; decide, fun p np => ?_⟩
  have n' := I1.same.free np
  refine ⟨v, p, [.ty "list", .ty "tuple"], _, [.type "list", .type "tuple"], isListD d || isTupD d, rfl, upd_same, .cons (.ty "list") (.cons (.ty "tuple") .nil), ty.tyx r1 (I1.same.trans (same_new np)), ?_, (q.mono e1) _ (.bl (isListD d || isTupD d)) cs1 _ _ (same_new (o := .tup [.ty "list", .ty "tuple"]) n') (I1.fresh np) (.raw _) hR⟩
  refine kitAny_cons (kit_ty (kit_list ty)) (fun e => ?_) (fun e => by rw [e]; rfl)
  rw [e, Bool.false_or]
  refine kitAny_cons (kit_ty (kit_tup ty)) (fun e => ?_) (fun e => e)
  rw [e]
  exact kitAny_nil
theorem int_of (h1 : isIntD d = true) (h2 : isBoolD d = false) : ∃ i, d = .int i := by
  match d, h1, h2 with
  | .raw (.int i), _, _ => exact ⟨i, rfl⟩
theorem str_of (h1 : isStrD d = true) : ∃ i, d = .str i := by
  match d, h1 with
  | .raw (.str i), _ => exact ⟨i, rfl⟩
/-! ### texts -/
def sgn (s : Str) : List Nat := s.cps.toList
theorem sgn_inj {a b : Str} (h : sgn a = sgn b) : a = b := by
  obtain ⟨⟨x⟩⟩ := a
  obtain ⟨⟨y⟩⟩ := b
  have e : x = y := h
  rw [e]
theorem sgn_len (s : Str) : (sgn s).length = s.length := by
  show s.cps.toList.length = s.cps.size
  exact Array.length_toList
theorem sgn_mk (l : List Nat) : sgn ⟨l.toArray⟩ = l := rfl
theorem sgn_app (a b : Str) : sgn (a ++ b) = sgn a ++ sgn b := by
  show (a.cps ++ b.cps).toList = _
  simp [sgn]
end
end L3

/-! S0 -/
set_option maxHeartbeats 4000000
namespace L3
open PySem PySem.Spec PyProof.Rows L2
section
variable {P : Program} {w : World} {A : Around} {E : Value → Shared → Prop} {s : Shared}
abbrev nu (w : World) : Obj := { cls := .type "set", dict := none, data := .set #[] 0 (.fresh 0 0 (!w.params.followText "set-order")) }
/-- set(xs) of a list of ints, its table told -/
theorem setOfList {l : Addr} {its : Array Value} (ks : List Int) {Q : Value → Shared → Prop} (hA : A.handled = none)
    (il : s.heap.IsList l its) (ii : IntsAre its.toList ks) (few : ks.length + 1 < scanBound)
    (fin : ∀ (g : Heap) (tk c : Nat), SetR w g s.heap.objs.size (fun j => decide (j ∈ ks)) c → c ≤ ks.length →
      (∀ b o, s.heap.get? b = some o → g.get? b = some o) → Q (.ref s.heap.objs.size) { s with heap := g, toks := tk }) :
    wpAny (model P w) A (call (.type "set") [.ref l]) Q E s := by
  have eL : its.size = ks.length := by
    rw [← Array.length_toList]
    exact IntsAre.length ii
  obtain ⟨c, tl, hmro⟩ := F.called_set.mro
  have m1 := F.called_set.made
  have m2 := F.called_set.sub
  have m3 := F.called_set.notType
  have m4 := F.called_set.canCreate
  have m5 := F.typeCall_set_1 (.ref l)
  refine wpAny_call (codeAny_of_tree ?_)
  show wpAny _ _ (callAny (.type "set") _) _ _ _
  refine wpAny_pure ⟨Code.quiet_builtin _ (by decide +kernel), ?_⟩
  refine codeAny_builtin F.entry_type_call ?_
  rw [Around.under_plain (weight_type_call_type "set" [.ref l] []) rfl]
  repeat (any_goals (first | assumption | wp_step))

  refine codeAny_mono (code_set_led1 (.ref l) (E := E)
    (Q₁ := fun a z => a = .ref s.heap.objs.size ∧ z = { s with heap := s.heap.push (nu w) }) ⟨rfl, rfl⟩) fun r z hr => ?_
  cases r with
  | error e => exact hr
  | ok fl =>
    cases fl with
    | ret obj =>
      obtain ⟨rfl, rfl⟩ := hr
      have g0 : (s.heap.push (nu w)).get? s.heap.objs.size = some (nu w) := Heap.get?_push_size _ rfl
      have tS : Shared.TypeIs { s with heap := s.heap.push (nu w) } (.ref s.heap.objs.size) "set" := ⟨_, g0, rfl⟩
      have k1 := F.called_set.init.lookup
      have k2 := F.called_set.init.bind (.ref s.heap.objs.size)
      repeat (any_goals (first | assumption | wp_step))

      refine codeAny_mono (codeAny_call_builtin (R := wants (fun r z => r = .none ∧ ∃ g tk c, z = { s with heap := g, toks := tk } ∧
          SetR w g s.heap.objs.size (fun j => decide (j ∈ ks)) c ∧ c ≤ ks.length ∧ ∀ b o, s.heap.get? b = some o → g.get? b = some o) E)
        F.called_set.init.plain F.entry_set_init (check_set_init_1 tS ?_)) fun r2 z2 hr2 => ?_
      · obtain ⟨ol, hol, oc, nl, ot⟩ := il
        obtain ⟨c0, d0, t0, s0⟩ := ol
        simp only at oc ot
        subst oc ot
        have hol2 := Heap.get?_push_of_some (nu w) hol
        have q1 := F.sub_list_set
        have q2 := F.sub_list_frozenset
        have q3 : (Value.type "list" == Value.type "dict") = false := by decide
        have il2 : (s.heap.push (nu w)).IsList l its := ⟨_, hol2, rfl, nl, rfl⟩
        unfold Builtin.«set.__init__» noKeywords Builtin.Frozenset.updateFrom
        generalize hPI : pyIter = PI
        wp_walk
        subst hPI

        refine wpAny_pyIter_list il2 ?_
        refine wpAny_bind (wpAny_runValue ?_)
        have hlS : l < s.heap.objs.size := Heap.lt_size hol
        have hA3 : A.in1.in1.in1.handled = none := by simp [hA]
        have neI : l ≠ (s.heap.push (nu w)).objs.size := by
          rw [Heap.size_push]
          exact Nat.ne_of_lt (Nat.lt_succ_of_lt hlS)
        have nS : s.heap.objs.size ∉ [(s.heap.push (nu w)).objs.size, l] := by
          rw [Heap.size_push]
          simp only [List.mem_cons, List.not_mem_nil, or_false, not_or]
          exact ⟨Nat.ne_of_lt (Nat.lt_succ_self _), Nat.ne_of_gt hlS⟩
        have vals : ∀ (i : Nat) (v : Value), its[i]? = some v → ∃ k t, ks[i]? = some k ∧ v = .int k t := fun i v hv => by
          have hi : i < ks.length := by
            rw [← eL]
            exact (Array.getElem?_eq_some_iff.mp hv).1
          obtain ⟨t, e⟩ := PyProof.Rows.IntsAre.int_at ii i v (by rw [Array.getElem?_toList]; exact hv)
          refine ⟨ks[i], t, List.getElem?_eq_getElem hi, ?_⟩
          rw [e, List.getD_eq_getElem?_getD, List.getElem?_eq_getElem hi] <;> rfl
        refine set_update_ints ((Walks.list hA3 _ l neI its).toS) s.heap.objs.size nS ks eL few vals (its.size - 0) 0 _ (by omega) (Nat.zero_le _)
          ⟨⟨_, Heap.get?_push_size _ rfl, rfl, rfl⟩, (il2.push _)⟩ ?kSet ?kEnd
        case kSet => exact ⟨0, Nat.le_refl 0, setR_new_at (Heap.get?_push_of_some _ g0)⟩
        case kEnd =>
          intro z c' hm hc' hS'
          obtain ⟨g, g2, d', tk', os'⟩ := z
          have eg : g2 = s.gens := hm.gens
          have ed : d' = s.drawn := hm.drawn
          have eo : os' = s.os := hm.os
          subst eg ed eo
          show wpAny _ _ _ _ _ _
          refine wpAny_pure ?_
          show wpAny _ _ (ret Value.none) _ _ _
          rw [eL] at hc'
          refine wpAny_pure ⟨rfl, g, tk', c', rfl, hS', hc', fun b o e => ?_⟩
          have lt := Heap.lt_size e
          refine hm.heap b o ?_ (Heap.get?_push_of_some _ (Heap.get?_push_of_some _ e))
          rw [Heap.size_push]
          simp only [List.mem_cons, List.not_mem_nil, or_false, not_or]
          exact ⟨Nat.ne_of_lt lt, Nat.ne_of_lt (Nat.lt_succ_of_lt lt)⟩

      · cases r2 with
        | error e => exact hr2
        | ok f2 =>
          cases f2 with
          | ret r =>
            obtain ⟨rfl, g, tk, c', rfl, hS', hc', hk'⟩ := hr2
            repeat (any_goals (first | assumption | wp_step))
            exact fin _ _ _ hS' hc' hk'
          | _ => exact hr2.elim
    | _ => exact hr.elim
end
end L3

/-! L3f -/
set_option maxHeartbeats 4000000
namespace L3
open PySem L2
/-! ### texts: strip(signs) -/
theorem takeWhile_all {g : Nat → Bool} : ∀ {l : List Nat}, (∀ c ∈ l, g c = true) → l.takeWhile g = l
  | [], _ => rfl
  | a :: r, h => by
    rw [List.takeWhile_cons, if_pos (h a (List.mem_cons_self ..)), takeWhile_all fun c hc => h c (List.mem_cons_of_mem _ hc)]
theorem takeWhile_le {g : Nat → Bool} : ∀ (l : List Nat), (l.takeWhile g).length ≤ l.length
  | [] => Nat.le_refl _
  | a :: r => by
    rw [List.takeWhile_cons]
    split
    · rw [List.length_cons, List.length_cons]
      exact Nat.succ_le_succ (takeWhile_le r)
    · exact Nat.zero_le _
theorem takeWhile_app {g : Nat → Bool} {a : Nat} (h : g a = false) : ∀ (l : List Nat), ((l ++ [a]).takeWhile g).length ≤ l.length
  | [] => by
    show (([a] : List Nat).takeWhile g).length ≤ 0
    rw [List.takeWhile_cons, if_neg (by rw [h]; exact Bool.false_ne_true)]
    exact Nat.le_refl _
  | b :: r => by
    show ((b :: (r ++ [a])).takeWhile g).length ≤ _
    rw [List.takeWhile_cons]
    split
    · rw [List.length_cons, List.length_cons]
      exact Nat.succ_le_succ (takeWhile_app h r)
    · exact Nat.zero_le _
theorem drop_takeWhile {g : Nat → Bool} : ∀ {l : List Nat}, ¬ (∀ c ∈ l, g c = true) → ∃ a r, l.drop (l.takeWhile g).length = a :: r ∧ g a = false
  | [], h => absurd (fun c hc => by cases hc) h
  | b :: r, h => by
    cases hb : g b with
    | false =>
      refine ⟨b, r, ?_, hb⟩
      rw [List.takeWhile_cons, if_neg (by rw [hb]; exact Bool.false_ne_true)]
      rfl
    | true =>
      have h2 : ¬ ∀ c ∈ r, g c = true := fun z => h fun c hc => by
        rcases List.mem_cons.mp hc with e | e
        · rw [e]; exact hb
        · exact z c e
      obtain ⟨a, q, e, ha⟩ := drop_takeWhile h2
      refine ⟨a, q, ?_, ha⟩
      rw [List.takeWhile_cons, if_pos hb]
      exact e
theorem strip_sgn (s y : Str) : sgn (Txt.stripChars s y) = ((sgn s).drop (stripLo y.cps.contains true s)).take (stripHi y.cps.contains true s (stripLo y.cps.contains true s) - stripLo y.cps.contains true s) := by
  have e : Txt.stripChars s y = stripped y.cps.contains true true s := by
    unfold Txt.stripChars Txt.stripBy
    split
    · rename_i h
      simp only [stripSame, Bool.and_eq_true, beq_iff_eq] at h
      show s = Builtin.Str.strSub s (stripLo y.cps.contains true s) (stripHi y.cps.contains true s (stripLo y.cps.contains true s))
      rw [h.2, h.1]
      refine sgn_inj ?_
      show sgn s = (s.cps.extract 0 s.length).toList
      rw [show s.length = s.cps.size from rfl, Array.extract_size] <;> rfl
    · rfl
  rw [e]
  show (s.cps.extract _ _).toList = _
  rw [Array.toList_extract]
  rfl
theorem strip_nil {s y : Str} : sgn (Txt.stripChars s y) = [] ↔ ∀ c ∈ sgn s, y.cps.contains c = true := by
  rw [strip_sgn]
  have elo : stripLo y.cps.contains true s = ((sgn s).takeWhile y.cps.contains).length := by
    unfold stripLo
    rw [if_pos rfl]
    rfl
  constructor
  · intro h
    apply Classical.byContradiction
    intro hn
    obtain ⟨a, r, e, ha⟩ := drop_takeWhile hn
    have ehi : stripHi y.cps.contains true s (stripLo y.cps.contains true s) = s.length - ((a :: r).reverse.takeWhile y.cps.contains).length := by
      unfold stripHi
      rw [if_pos rfl, elo]
      show s.length - (((sgn s).drop _).reverse.takeWhile _).length = _
      rw [e]
    have l1 : ((a :: r).reverse.takeWhile y.cps.contains).length ≤ r.length := by
      rw [List.reverse_cons]
      have := takeWhile_app ha r.reverse
      rw [List.length_reverse] at this
      exact this
    have l2 : (a :: r).length = (sgn s).length - ((sgn s).takeWhile y.cps.contains).length := by rw [← e, List.length_drop]
    rw [List.length_cons, sgn_len] at l2
    rw [elo, e] at h
    have l3 := congrArg List.length h
    rw [List.length_take, List.length_cons, ← elo, ehi, List.length_nil] at l3
    rw [elo] at l3
    omega
  · intro h
    rw [elo, takeWhile_all h, List.drop_length, List.take_nil]
def isStickS (s : Str) : Bool := !(sgn s).isEmpty && (sgn s).all fun c => c == 46 || c == 120
theorem sgn_nil {s : Str} : sgn s = [] ↔ s = "" := by
  constructor
  · intro h
    exact sgn_inj (h.trans rfl)
  · intro h
    rw [h]
    rfl
theorem strip_eq (s : Str) : decide (Txt.stripChars s ".x" = "") = (sgn s).all fun c => c == 46 || c == 120 := by
  have e : Txt.stripChars s ".x" = "" ↔ ((sgn s).all fun c => c == 46 || c == 120) = true := by
    rw [← sgn_nil, strip_nil, List.all_eq_true]
    have hc : ∀ c : Nat, (Str.ofString ".x").cps.contains c = (c == 46 || c == 120) := fun c => by
      show (#[46, 120] : Array Nat).contains c = _
      rw [Bool.eq_iff_iff]
      simp
    constructor
    · intro h c hx
      rw [← hc c]
      exact h c hx
    · intro h c hx
      have := h c hx
      rw [← hc c] at this
      exact this
  cases hb : (sgn s).all fun c => c == 46 || c == 120 with
  | true => exact decide_eq_true (e.mpr hb)
  | false => exact decide_eq_false fun z => by rw [e.mp z] at hb; cases hb
end L3

/-! S1 -/
set_option maxHeartbeats 4000000
namespace L3
open PySem PySem.Spec PyProof.Rows L2
/-! ### sorted(set(xs)) of ints -/
def rSetI (K : PySem.W.Frag) (w : World) : List V → Hp → VK → Prop := fun xs H Q => ∃ (p : Addr) (ns : List Int), xs = [.ref p] ∧ (SqL K H p (ns.map V.int) ∨ SqT K H p (ns.map V.int)) ∧ ns.length ≤ 60 ∧
  ∀ (q : Addr) (n : Nat), H q = none → n ≤ ns.length → Q (.ref q) (upd H q (SetO w q (fun j => decide (j ∈ ns)) n))
theorem intsAre_of : ∀ {ns : List Int} {us : List Value}, Vals (ns.map V.int) us → IntsAre us ns
  | [], _, h => by
    cases h
    exact .nil
  | n :: ns, _, h => by
    cases h with
    | cons r t =>
      obtain ⟨k, rfl⟩ := r
      exact IntsAre.cons _ _ (intsAre_of t)
theorem cr_setI {X : Cx} (hc : X.calm = true) : CallR X (.type "set") (rSetI X.K X.w) := by
  intro pins s σ H xs us Q I r h
  obtain ⟨p, ns, rfl, hp, hl, q⟩ := h
  obtain ⟨u, rfl, ru⟩ := vals1 r
  cases (show u = Value.ref p from ru)
  have few : ns.length + 1 < scanBound := by unfold scanBound; omega
  rcases hp with hp | hp
  · obtain ⟨its, rv, pl, hz⟩ := I.list hp
    refine setOfList ns (I.ok.hd hc) pl.isList (by simpa using intsAre_of rv) few fun g tk c hS hcl hk => ?_
    exact ⟨.ref s.heap.objs.size, _, I.laid (t' := tk) hk (Nat.le_refl _) (setO_new hS), rfl, q _ c (I.hok.fresh (Nat.le_refl _)) hcl⟩
  · obtain ⟨its, rv, pl, hz⟩ := I.tuple hp
    refine call_set_tupI ns (I.ok.hd hc) pl (by simpa using intsAre_of rv) few fun g tk c hS hcl hk => ?_
    exact ⟨.ref s.heap.objs.size, _, I.laid (t' := tk) hk (Nat.le_refl _) (setO_new hS), rfl, q _ c (I.hok.fresh (Nat.le_refl _)) hcl⟩
/-- the ints of a list, ascending, each once -/
def insA (k : Int) : List Int → List Int
  | [] => [k]
  | a :: r => if k < a then k :: a :: r else if k = a then a :: r else a :: insA k r
def asc (l : List Int) : List Int := l.foldr insA []
theorem insA_mem (k : Int) : ∀ {l : List Int} {j : Int}, j ∈ insA k l ↔ j = k ∨ j ∈ l
  | [], j => by simp [insA]
  | a :: r, j => by
    unfold insA
    split
    · simp
    · split
      · rename_i h
        subst h
        simp
      · rw [List.mem_cons, insA_mem k, List.mem_cons]
        constructor
        · rintro (h | h | h)
          · exact .inr (.inl h)
          · exact .inl h
          · exact .inr (.inr h)
        · rintro (h | h | h)
          · exact .inr (.inl h)
          · exact .inl h
          · exact .inr (.inr h)
theorem insA_asc (k : Int) : ∀ {l : List Int}, l.Pairwise (· < ·) → (insA k l).Pairwise (· < ·)
  | [], _ => by simp [insA]
  | a :: r, h => by
    obtain ⟨h1, h2⟩ := List.pairwise_cons.mp h
    unfold insA
    split
    · rename_i hk
      refine List.pairwise_cons.mpr ⟨fun x hx => ?_, h⟩
      rcases List.mem_cons.mp hx with e | e
      · rw [e]; exact hk
      · have := h1 x e
        omega
    · split
      · exact h
      · refine List.pairwise_cons.mpr ⟨fun x hx => ?_, insA_asc k h2⟩
        rcases (insA_mem k).mp hx with e | e
        · omega
        · exact h1 x e
theorem asc_asc : ∀ (l : List Int), (asc l).Pairwise (· < ·)
  | [] => List.Pairwise.nil
  | a :: r => insA_asc a (asc_asc r)
theorem asc_mem : ∀ {l : List Int} {j : Int}, j ∈ asc l ↔ j ∈ l
  | [], j => by simp [asc]
  | a :: r, j => by
    show j ∈ insA a (asc r) ↔ _
    rw [insA_mem, asc_mem, List.mem_cons]
theorem asc_uniq : ∀ {l m : List Int}, l.Pairwise (· < ·) → m.Pairwise (· < ·) → (∀ k, k ∈ l ↔ k ∈ m) → l = m
  | [], [], _, _, _ => rfl
  | [], b :: m, _, _, h => by
    have := (h b).mpr (List.mem_cons_self ..)
    cases this
  | a :: l, [], _, _, h => by
    have := (h a).mp (List.mem_cons_self ..)
    cases this
  | a :: l, b :: m, h1, h2, h => by
    obtain ⟨p1, p2⟩ := List.pairwise_cons.mp h1
    obtain ⟨q1, q2⟩ := List.pairwise_cons.mp h2
    have e : a = b := by
      have ha := (h a).mp (List.mem_cons_self ..)
      have hb := (h b).mpr (List.mem_cons_self ..)
      rcases List.mem_cons.mp ha with e | e
      · exact e
      · rcases List.mem_cons.mp hb with e2 | e2
        · exact e2.symm
        · have := q1 a e
          have := p1 b e2
          omega
    subst e
    rw [asc_uniq p2 q2 fun k => ?_]
    constructor
    · intro hk
      rcases List.mem_cons.mp ((h k).mp (List.mem_cons_of_mem _ hk)) with e | e
      · have := p1 k hk
        omega
      · exact e
    · intro hk
      rcases List.mem_cons.mp ((h k).mpr (List.mem_cons_of_mem _ hk)) with e | e
      · have := q1 k hk
        omega
      · exact e
theorem asc_eq {l m : List Int} (h1 : l.Pairwise (· < ·)) (h : ∀ k, k ∈ l ↔ k ∈ m) : l = asc m := asc_uniq h1 (asc_asc m) fun k => (h k).trans asc_mem.symm
section
variable {K : PySem.W.Frag} {G G' H H' : Hp} {σ : L2.St} {Δ : L3.Env} {cs : Cells} {R : RK} {te : TE} {d : D} {w : World} {ds : List D}
theorem map_int (ns : List Int) : ns.map D.int = (ns.map V.int).map D.raw := by rw [List.map_map]; rfl
theorem er_sortedSet (h : Er K te Δ cs fun d cs1 => ∃ ns : List Int, (d = .lst (ns.map D.int) ∨ d = .tup (ns.map D.int)) ∧ ns.length ≤ 60 ∧ R (.lst ((asc ns).map D.int)) cs1) :
    Er K (tCB (rSortedSet w) (tCons (tCB (rSetI K w) (tCons te tNil)) tNil)) Δ cs R := fun σ G H Q E I q =>
  h σ G H _ E I fun v d cs1 G1 H1 e1 I1 r1 ⟨ns, ed, hl, h1⟩ => by
    have hv : ∃ p, v = .ref p ∧ (SqL K H1 p (ns.map V.int) ∨ SqT K H1 p (ns.map V.int)) := by
      rcases ed with ed | ed
      · subst ed
        obtain ⟨p, vs, rfl, hp, rs⟩ := r1.lst_inv
        rw [map_int] at rs
        have ev := Reps.raws rs
        subst ev
        exact ⟨p, rfl, .inl (I1.same.seq hp)⟩
      · subst ed
        obtain ⟨p, vs, rfl, hp, rs⟩ := r1.tup_inv
        rw [map_int] at rs
        have ev := Reps.raws rs
        subst ev
        exact ⟨p, rfl, .inr (seqT I1.same hp)⟩
    obtain ⟨p, rfl, hp⟩ := hv
    refine ⟨p, ns, rfl, hp, hl, fun a n na hn => ⟨a, _, n, rfl, upd_same, by omega, fun ms b hs hm _ nb => ?_⟩⟩
    have e : ms = asc ns := asc_eq hs fun k => (hm k).trans (by rw [decide_eq_true_iff])
    subst e
    have I2 : Own K G1 (upd H1 a (SetO w a (fun j => decide (j ∈ ns)) n)) cs1 := I1.grown (same_new na)
    have nb' := I2.same.free nb
    refine q (.ref b) _ cs1 _ _ (e1.trans (same_new nb')) (I2.fresh nb) (.lst upd_same ?_) h1
    rw [map_int]
    exact Reps.of_raws _
def rTupOf (K : PySem.W.Frag) : List V → Hp → VK → Prop := fun xs H Q => ∃ p ys, xs = [.ref p] ∧ ((SqL K H p ys ∧ ∀ l, H l = none → Q (.ref l) (upd H l (.tup ys))) ∨ (SqT K H p ys ∧ Q (.ref p) H))
theorem call_tupOf {X : Cx} : CallR X (.type "tuple") (rTupOf X.K) := call_tuple_of
theorem oa_tupL (h : R (.tup ds) cs) : Oa K (rTupOf K) [.lst ds] cs R := fun vs G H Q r I q => by
  obtain ⟨v, rfl, rv⟩ := reps1 r
  obtain ⟨p, ws, rfl, hp, rs⟩ := rv.lst_inv
  refine ⟨p, ws, rfl, .inl ⟨I.same.seq hp, fun l n => ?_⟩⟩
  have n' := I.same.free n
  exact q (.ref l) _ cs _ _ (same_new n') (I.fresh n) (.tup (.inl (.inl upd_same)) (rs.mono (same_new n'))) h
theorem oa_tupT (h : R (.tup ds) cs) : Oa K (rTupOf K) [.tup ds] cs R := fun vs G H Q r I q => by
  obtain ⟨v, rfl, rv⟩ := reps1 r
  obtain ⟨p, ws, rfl, hp, rs⟩ := id rv.tup_inv
  exact ⟨p, ws, rfl, .inr ⟨seqT I.same hp, q.now I rv h⟩⟩
end
end L3

/-! L3g -/
set_option maxHeartbeats 4000000
namespace L3
open PySem L2
def iOr (w1 w2 : TI) : TI := fun σ H R => w1 σ H R ∨ w2 σ H R
theorem pi_or {X : Cx} {tg l : Expr} {w1 w2 : TI} (h1 : PI X tg l w1) (h2 : PI X tg l w2) : PI X tg l (iOr w1 w2) := ⟨fun pins s σ H R I h => by
  rcases h with h | h
  · exact h1.run pins s σ H R I h
  · exact h2.run pins s σ H R I h⟩
section
variable {K : PySem.W.Frag} {G G' H H' : Hp} {σ : L2.St} {Δ : Env} {cs : Cells} {R : RK} {ta tb tc te to : TE} {d x y : D} {ds es : List D} {A : AE} {t : TA}
theorem ei_or1 {w1 w2 : TI} {R : RsK} (h : Ei K w1 Δ cs R) : Ei K (iOr w1 w2) Δ cs R := fun σ G H Rr E I q => .inl (h σ G H Rr E I q)
theorem ei_or2 {w1 w2 : TI} {R : RsK} (h : Ei K w2 Δ cs R) : Ei K (iOr w1 w2) Δ cs R := fun σ G H Rr E I q => .inr (h σ G H Rr E I q)
theorem filter_take {α : Type} {f : α → Bool} {l : List α} {i : Nat} {a : α} (h : l[i]? = some a) : (l.take (i + 1)).filter f = (l.take i).filter f ++ (if f a then [a] else []) := by
  rw [List.take_add_one, h, List.filter_append]
  cases e : f a <;> simp [List.filter, e]
/-- a comprehension whose turn changes nothing -/
theorem er_lcP {wi : TI} {g : TG} {tt : TT} {vs : List Nat} (f : D → Bool) (m : D → D) (hw : TgtIn g vs) (h : Ei K wi Δ cs fun ds cs1 => ds.length ≤ 100000 ∧
    (∀ (i : Nat) (d : D) (acc : List D) (p : Addr), ds[i]? = some d → Gg K g d (wipeE Δ vs) (cs1 ++ [(p, .lst acc)]) fun Δ' cs3 => Et K tt Δ' cs3 fun b cs4 => (b = true → f d = true ∧ Er K te Δ' cs4 fun y cs5 => y = m d ∧ cs5 = cs1 ++ [(p, .lst acc)]) ∧ (b = false → f d = false ∧ cs4 = cs1 ++ [(p, .lst acc)])) ∧
    R (.lst ((ds.filter f).map m)) cs1) : Er K (tLc wi g tt te vs) Δ cs R := by
  refine er_lc hw ?_
  intro σ G H Rr E I q
  refine h σ G H Rr E I fun J ds cs1 G' H' e I' w ⟨hl, ht, hR⟩ => q J ds cs1 G' H' e I' w ⟨fun i acc cs2 => i ≤ ds.length ∧ acc = ((ds.take i).filter f).map m ∧ cs2 = cs1, ⟨Nat.zero_le _, rfl, rfl⟩, ?_, ?_⟩
  · rintro i d acc cs2 p hd ⟨hi, ea, rfl⟩
    have hlt : i < ds.length := (List.getElem?_eq_some_iff.mp hd).1
    intro v σ' G2 H2 Q E2 I2 r q2
    refine ht i d acc p hd v σ' G2 H2 Q E2 I2 r fun σ3 Δ3 cs3 G3 H3 e3 E3 I3 h3 => q2 σ3 Δ3 cs3 G3 H3 e3 E3 I3 ?_
    refine et_mono h3 fun b cs4 ⟨h4, h5⟩ => ⟨fun hb => ?_, fun hb => ?_⟩
    · obtain ⟨eb, h4⟩ := h4 hb
      refine er_mono h4 fun y cs5 ⟨ey, ec5⟩ => ⟨_, ec5, ?_, hlt, ?_, rfl⟩
      · rw [ea, List.length_map]
        have h1 := List.length_filter_le f (ds.take i)
        have h2 := List.length_take_le i ds
        have h3 : (100000 : Nat) < sizeLine := by decide
        omega
      · rw [filter_take hd, eb, ea, ey, if_pos rfl, List.map_append]
        rfl
    · obtain ⟨eb, ec⟩ := h5 hb
      refine ⟨_, ec, hlt, ?_, rfl⟩
      rw [filter_take hd, eb, ea, if_neg Bool.false_ne_true, List.append_nil]
  · rintro acc cs2 ⟨_, ea, rfl⟩
    rw [List.take_length] at ea
    rw [ea]
    exact hR
/-- .. without a test -/
theorem er_lcM {wi : TI} {g : TG} {vs : List Nat} (m : D → D) (hw : TgtIn g vs) (h : Ei K wi Δ cs fun ds cs1 => ds.length ≤ 100000 ∧
    (∀ (i : Nat) (d : D) (acc : List D) (p : Addr), ds[i]? = some d → Gg K g d (wipeE Δ vs) (cs1 ++ [(p, .lst acc)]) fun Δ' cs3 => Er K te Δ' cs3 fun y cs5 => y = m d ∧ cs5 = cs1 ++ [(p, .lst acc)]) ∧
    R (.lst (ds.map m)) cs1) : Er K (tLc wi g tYes te vs) Δ cs R := by
  refine er_lcP (fun _ => true) m hw ?_
  intro σ G H Rr E I q
  refine h σ G H Rr E I fun J ds cs1 G' H' e I' w ⟨hl, ht, hR⟩ => q J ds cs1 G' H' e I' w ⟨hl, ?_, ?_⟩
  · intro i d acc p hd v σ' G2 H2 Q E2 I2 r q2
    refine ht i d acc p hd v σ' G2 H2 Q E2 I2 r fun σ3 Δ3 cs3 G3 H3 e3 E3 I3 h3 => q2 σ3 Δ3 cs3 G3 H3 e3 E3 I3 ?_
    exact et_yes ⟨fun _ => ⟨rfl, h3⟩, fun z => nomatch z⟩
  · rw [List.filter_eq_self.mpr fun _ _ => rfl]
    exact hR
theorem o2_inK {neg : Bool} {v : V} {ws : List V} {a : Addr} (hs : ∀ H : Hp, SqT K H a ws) (h1 : flatV v = true) (h2 : ws.all flatV = true) (h : R (.bl (if neg then !inV v ws else inV v ws)) cs) : O2 K (rIn K neg) (.raw v) (.raw (.ref a)) cs R := fun x y G H Q ra rb I q => by
  have ea := ra.raw_inv
  have eb := rb.raw_inv
  subst ea eb
  exact ⟨a, ws, rfl, .inr (hs H), h1, h2, q.now I (.raw _) h⟩
end
end L3

/-! L3h -/
set_option maxHeartbeats 4000000
namespace L3
open PySem L2
/-! ### the rules with the written part named: for what stands within a comprehension -/
section
variable {X : Cx} {K : PySem.W.Frag}
theorem kop_in (hK : X.K = K) : OpR X (compareOp .In) (rIn K false) := by subst hK; exact op_in_seq
theorem kop_notIn (hK : X.K = K) : OpR X (compareOp .NotIn) (rIn K true) := by subst hK; exact op_notIn_seq
theorem kix_list (hK : X.K = K) : IxR X (rIxL K) := by subst hK; exact ix_list
theorem kix_tup (hK : X.K = K) : IxR X (rIxT K) := by subst hK; exact ix_tup
theorem ksl_list (hK : X.K = K) : SlR X (rSlL K) := by subst hK; exact sl_list
theorem kcall_isi (hK : X.K = K) : CallR X (.builtin "isinstance") (rIsi K) := by subst hK; exact call_isi
theorem kcall_isiT (hK : X.K = K) : CallR X (.builtin "isinstance") (rIsiT K) := by subst hK; exact call_isiT
theorem kcall_len (hK : X.K = K) : CallR X (.builtin "len") (rLenX K) := by subst hK; exact call_lenX
theorem kcr_all (hK : X.K = K) (hc : X.calm = true) : CallR X (.builtin "all") (rAll K) := by subst hK; exact cr_all hc
theorem kcr_any (hK : X.K = K) (hc : X.calm = true) : CallR X (.builtin "any") (rAny K) := by subst hK; exact cr_any hc
theorem kcall_tup (hK : X.K = K) : CallR X (.type "tuple") (rTupOf K) := by subst hK; exact call_tupOf
theorem kcr_setI (hK : X.K = K) (hc : X.calm = true) : CallR X (.type "set") (rSetI K X.w) := by subst hK; exact cr_setI hc
theorem kpi_list {tg l : Expr} {tl : TE} (hK : X.K = K) (hl : PE X l tl) : PI X tg l (iList K tl) := by subst hK; exact pi_list hl
theorem kpi_tup {tg l : Expr} {tl : TE} (hK : X.K = K) (hl : PE X l tl) : PI X tg l (iTup K tl) := by subst hK; exact pi_tup hl
theorem kpi_enum {e : Expr} {ta : TA} {p pos tpos : Pos} {elts : List Expr} {kk : Nat} (hK : X.K = K) (hg : Gl X "enumerate") (hm : X.mg "enumerate" = none) (ha : PA X [e] ta) (hs : starEach [e] X.env = [(false, eval e X.env)] := by rfl) : PI X (.Tuple elts kk tpos) (.Call (.Name "enumerate" p) [e] [] pos) (iEnum K ta) := by
  subst hK
  exact pi_enum hg hm ha hs
theorem kpe_join {o e : Expr} {to te : TE} {apos pos : Pos} (hK : X.K = K) (ho : PE X o to) (he : PE X e te) (hs : starEach [e] X.env = [(false, eval e X.env)] := by rfl) (hbase : attributeBase o "join" X.env (eval o X.env) = eval o X.env := by rfl) (hline : (apos.endLine == pos.line) = true := by rfl) :
    PE X (.Call (.Attribute o "join" apos) [e] [] pos) (tM1 (rJoin K) to te) := by subst hK; exact pe_joinJ ho he hs hbase hline
theorem kpe_fld {e : Expr} {f : Str} {pos : Pos} {ta : TE} (hK : X.K = K) (he : PE X e ta) (hb : attributeBase e f X.env (eval e X.env) = eval e X.env := by rfl) : PE X (.Attribute e f pos) (tFld K ta f) := by subst hK; exact pe_fld he hb
theorem kpg_tup {es : List Expr} {k : Nat} {t : TGs} {n : Nat} {pos : Pos} (hK : X.K = K) (hc : X.calm = true) (h : PGs X es t)
    (hn : (assignEach es X.env).length = n := by rfl) (hst : (assignEach es X.env).findIdx? (·.1) = none := by rfl) : PG X (.Tuple es k pos) (gTup K n t) := by subst hK; exact pg_tup hc h hn hst
theorem kpe_strip {o e : Expr} {to te : TE} {apos cpos : Pos} (hK : X.K = K) (ho : PE X o to) (he : PE X e te)
    (h : PE X (.Call (.Attribute o "strip" apos) [e] [] cpos) (tBM X.K "str" (fun x xs H Q => ∃ a b, x = .str a ∧ xs = [.str b] ∧ a.length ≤ sizeLine ∧ Q (.str (Txt.stripChars a b)) H) to (tCons te tNil))) :
    PE X (.Call (.Attribute o "strip" apos) [e] [] cpos) (tBM K "str" (fun x xs H Q => ∃ a b, x = .str a ∧ xs = [.str b] ∧ a.length ≤ sizeLine ∧ Q (.str (Txt.stripChars a b)) H) to (tCons te tNil)) := by subst hK; exact h
end
end L3

/-! L3i -/
set_option maxHeartbeats 4000000
namespace L3
open PySem L2
section
variable {K : PySem.W.Frag} {Δ : Env} {cs : Cells} {R : RK} {ta tb tc te to : TE} {d x y : D} {A : AE} {t u v : TS} {c : TT}
/-- a test whose answer is told first: if c: t, the rest behind it -/
theorem xs_guard {B : Bool} {C : Cells} (h : Et K c Δ cs fun b cs1 => b = B ∧ cs1 = C) (h1 : B = true → Xs K t { A with nx := fun Δ cs => Xs K u A Δ cs } Δ C) (h2 : B = false → Xs K u A Δ C) : Xs K (tSeq (tIfS c t tNext) u) A Δ cs := by
  refine xs_seq (xs_if (et_mono h ?_))
  rintro b cs1 ⟨rfl, rfl⟩
  exact ⟨h1, fun e => xs_next (h2 e)⟩
/-- if c: t else: v, the rest -/
theorem xs_branch {B : Bool} {C : Cells} (h : Et K c Δ cs fun b cs1 => b = B ∧ cs1 = C) (h1 : B = true → Xs K t A Δ C) (h2 : B = false → Xs K v A Δ C) : Xs K (tIfS c t v) A Δ cs := by
  refine xs_if (et_mono h ?_)
  rintro b cs1 ⟨rfl, rfl⟩
  exact ⟨h1, h2⟩
theorem xs_seqAsg {i : Nat} {C : Cells} (h : Er K te Δ cs fun d' cs1 => d' = d ∧ cs1 = C) (k : Xs K u A (Δ.set i (some d)) C) : Xs K (tSeq (tAsg te (gName i)) u) A Δ cs := by
  refine xs_seq (xs_asg (er_mono h ?_))
  rintro d' cs1 ⟨rfl, rfl⟩
  exact k
/-- the answers of a test, of a value: for what follows -/
theorem et_is {B B' : Bool} (e : B = B') {C : Cells} (h : Et K c Δ cs fun b cs1 => b = B ∧ cs1 = C) : Et K c Δ cs fun b cs1 => b = B' ∧ cs1 = C := e ▸ h
theorem er_is {d d' : D} (e : d = d') {C : Cells} (h : Er K te Δ cs fun b cs1 => b = d ∧ cs1 = C) : Er K te Δ cs fun b cs1 => b = d' ∧ cs1 = C := e ▸ h
theorem et_then {C : Cells} {B : Bool} {R : BK} (h : Et K c Δ cs fun b cs1 => b = B ∧ cs1 = C) (k : R B C) : Et K c Δ cs R := et_mono h fun b cs1 ⟨e1, e2⟩ => by
  rw [e1, e2]
  exact k
theorem er_then {C : Cells} (h : Er K te Δ cs fun b cs1 => b = d ∧ cs1 = C) (k : R d C) : Er K te Δ cs R := er_mono h fun b cs1 ⟨e1, e2⟩ => by
  rw [e1, e2]
  exact k
/-- both parts' answers told -/
theorem et_andP {B B2 : Bool} {c2 : TT} (h1 : Et K c Δ cs fun b cs1 => b = B ∧ cs1 = cs) (h2 : B = true → Et K c2 Δ cs fun b cs1 => b = B2 ∧ cs1 = cs) : Et K (tAnd c c2) Δ cs fun b cs1 => b = (B && B2) ∧ cs1 = cs := by
  refine et_and (et_mono h1 ?_)
  rintro b cs1 ⟨rfl, rfl⟩
  exact ⟨fun e => et_mono (h2 e) fun b cs1 ⟨e1, e2⟩ => ⟨by rw [e1, e, Bool.true_and], e2⟩, fun e => ⟨by rw [e, Bool.false_and], rfl⟩⟩
theorem et_orP {B B2 : Bool} {c2 : TT} (h1 : Et K c Δ cs fun b cs1 => b = B ∧ cs1 = cs) (h2 : B = false → Et K c2 Δ cs fun b cs1 => b = B2 ∧ cs1 = cs) : Et K (tOr c c2) Δ cs fun b cs1 => b = (B || B2) ∧ cs1 = cs := by
  refine et_or (et_mono h1 ?_)
  rintro b cs1 ⟨rfl, rfl⟩
  exact ⟨fun e => ⟨by rw [e, Bool.true_or], rfl⟩, fun e => et_mono (h2 e) fun b cs1 ⟨e1, e2⟩ => ⟨by rw [e1, e, Bool.false_or], e2⟩⟩
theorem et_notP {B : Bool} {C : Cells} (h1 : Et K c Δ cs fun b cs1 => b = B ∧ cs1 = C) : Et K (tNot c) Δ cs fun b cs1 => b = (!B) ∧ cs1 = C := et_not (et_mono h1 fun b cs1 ⟨e1, e2⟩ => ⟨by rw [e1], e2⟩)
end
theorem lv_bool {b : Bool} {p q : Prop} (h1 : b = true → p) (h2 : b = false → q) : ∃ c, D.bl b = D.bl c ∧ (c = true → p) ∧ (c = false → q) := ⟨b, rfl, h1, h2⟩
theorem lv_bl {b : Bool} {p : Bool → Prop} (h : p b) : ∃ c, D.bl b = D.bl c ∧ p c := ⟨b, rfl, h⟩
theorem lv_str {z : Str} {p : Str → Prop} (h : p z) : ∃ c, D.str z = D.str c ∧ p c := ⟨z, rfl, h⟩
theorem lv_int {z : Int} {p : Int → Prop} (h : p z) : ∃ c, D.int z = D.int c ∧ p c := ⟨z, rfl, h⟩
end L3

/-! L3j -/
set_option maxHeartbeats 4000000
namespace L3
open PySem L2
section
variable {K : PySem.W.Frag} {G G' H H' : Hp} {σ : L2.St} {Δ : Env} {cs : Cells} {R : RK} {ta tb tc te to : TE} {d x y : D} {ds es : List D} {A : AE} {t : TA} {u : TS}
/-- cells that are no longer asked for -/
theorem xs_drops (n : Nat) {ts : TS} (h : Xs K ts A Δ (cs.take n)) : Xs K ts A Δ cs := fun σ G H D E I q => h σ G H D E (I.take n) q
theorem er_drops {R : RK} (h : Er K te Δ cs fun d cs1 => ∃ n, R d (cs1.take n)) : Er K te Δ cs R := fun σ G H Q E I q =>
  h σ G H Q E I fun v d cs1 G1 H1 e I1 r1 ⟨n, h1⟩ => q v d _ G1 H1 e (I1.take n) r1 h1
/-- a word between two statements -/
theorem xs_mono {ts : TS} {N' : Env → Cells → Prop} (h : Xs K ts A Δ cs) (k : ∀ Δ cs, A.nx Δ cs → N' Δ cs) : Xs K ts { A with nx := N' } Δ cs := fun σ G H D E I q =>
  h σ G H D E I ⟨fun σ' Δ' cs' G' H' e E' I' n => q.nx σ' Δ' cs' G' H' e E' I' (k _ _ n), q.rt, q.bk, q.ct, q.iv⟩
theorem xs_cut {ts : TS} {M : Env → Cells → Prop} (h : Xs K ts { A with nx := M } Δ cs) (k : ∀ Δ cs, M Δ cs → Xs K u A Δ cs) : Xs K (tSeq ts u) A Δ cs :=
  xs_seq (xs_mono (A := { A with nx := M }) (N' := fun Δ cs => Xs K u A Δ cs) h k)
/-- max, min, abs, int of ints -/
def rMax2 : List V → Hp → VK → Prop := fun xs H Q => ∃ i j, xs = [.int i, .int j] ∧ Q (.int (if j > i then j else i)) H
def rMin2 : List V → Hp → VK → Prop := fun xs H Q => ∃ i j, xs = [.int i, .int j] ∧ Q (.int (if j < i then j else i)) H
def rAbs : List V → Hp → VK → Prop := fun xs H Q => ∃ i, xs = [.int i] ∧ Q (.int (if i < 0 then -i else i)) H
def rInt1 : List V → Hp → VK → Prop := fun xs H Q => (∃ i, xs = [.int i] ∧ Q (.int i) H) ∨ ∃ k, xs = [.bl k] ∧ Q (.int (if k then 1 else 0)) H
theorem kcall_max2 {X : Cx} (hc : X.calm = true) : CallR X (.builtin "max") rMax2 := call_max2 hc
theorem kcall_min2 {X : Cx} (hc : X.calm = true) : CallR X (.builtin "min") rMin2 := call_min2 hc
theorem kcall_abs {X : Cx} : CallR X (.builtin "abs") rAbs := call_abs
theorem kcall_int1 {X : Cx} : CallR X (.type "int") rInt1 := call_int1
theorem oa_max2 {i j : Int} (h : R (.int (if j > i then j else i)) cs) : Oa K rMax2 [.int i, .int j] cs R := oa_V2 (fun H Q q => ⟨i, j, rfl, q⟩) h
theorem oa_min2 {i j : Int} (h : R (.int (if j < i then j else i)) cs) : Oa K rMin2 [.int i, .int j] cs R := oa_V2 (fun H Q q => ⟨i, j, rfl, q⟩) h
theorem oa_abs {i : Int} (h : R (.int (if i < 0 then -i else i)) cs) : Oa K rAbs [.int i] cs R := oa_V1 (fun H Q q => ⟨i, rfl, q⟩) h
theorem oa_intI {i : Int} (h : R (.int i) cs) : Oa K rInt1 [.int i] cs R := oa_V1 (fun H Q q => .inl ⟨i, rfl, q⟩) h
theorem oa_intB {b : Bool} (h : R (.int (if b then 1 else 0)) cs) : Oa K rInt1 [.bl b] cs R := oa_V1 (fun H Q q => .inr ⟨b, rfl, q⟩) h
/-- a, b, c = x, y, z -/
theorem xs_par3 {i j l : Nat} (h : Ea K t Δ cs fun xs cs1 => ∃ x y z, xs = [x, y, z] ∧ A.nx (((Δ.set i (some x)).set j (some y)).set l (some z)) cs1) : Xs K (tPar3 i j l t) A Δ cs := fun σ G H D E I q =>
  h σ G H _ E I fun vs xs cs1 G1 H1 e1 I1 r1 ⟨x, y, z, ex, h1⟩ => by
    subst ex
    cases r1 with
    | cons ra rb =>
      obtain ⟨v, w, rfl, rv, rw'⟩ := reps2 rb
      exact ⟨_, v, w, rfl, q.nx _ _ cs1 G1 H1 e1 ((((E.mono e1).set ra i).set rv j).set rw' l) I1 h1⟩
theorem gg_lst {n : Nat} {gs : TGs} {N : Env → Cells → Prop} (hl : ds.length = n) (h : Ggs K gs ds Δ cs N) : Gg K (gLst K n gs) (.lst ds) Δ cs N := fun v σ G H Q E I r q => by
  obtain ⟨p, vs, rfl, hp, rs⟩ := r.lst_inv
  exact ⟨p, vs, rfl, I.same.seq hp, by rw [rs.length]; exact hl, h vs σ G H Q E I rs q⟩
theorem kpg_lst {X : Cx} {es : List Expr} {k : Nat} {t : TGs} {n : Nat} {pos : Pos} (hK : X.K = K) (hc : X.calm = true) (h : PGs X es t)
    (hn : (assignEach es X.env).length = n := by rfl) (hst : (assignEach es X.env).findIdx? (·.1) = none := by rfl) : PG X (.Tuple es k pos) (gLst K n t) := by subst hK; exact pg_lst hc h hn hst
/-- x is True, x is not True -/
theorem o2_isB {a b : Bool} (h : R (.bl (decide (a = b))) cs) : O2 K rIsB (.bl a) (.bl b) cs R := fun v w G H Q rv rw' I q => ⟨a, b, rv.raw_inv, rw'.raw_inv, q.now I (.raw _) h⟩
theorem o2_notB {a b : Bool} (h : R (.bl (!decide (a = b))) cs) : O2 K rNotB (.bl a) (.bl b) cs R := fun v w G H Q rv rw' I q => ⟨a, b, rv.raw_inv, rw'.raw_inv, q.now I (.raw _) h⟩
/-- xs[::-1] -/
theorem er_revL (h : Er K te Δ cs fun d cs1 => ∃ ds, d = .lst ds ∧ R (.lst ds.reverse) cs1) : Er K (tRevL K te) Δ cs R := fun σ G H Q E I q =>
  h σ G H _ E I fun v d cs1 G1 H1 e1 I1 r1 ⟨ds, ed, h1⟩ => by
    subst ed
    obtain ⟨p, vs, rfl, hp, rs⟩ := r1.lst_inv
    refine ⟨p, vs, rfl, I1.same.seq hp, fun q1 n => ?_⟩
    have n' := I1.same.free n
    exact q (.ref q1) _ cs1 _ _ (e1.trans (same_new n')) (I1.fresh n) (.lst upd_same (rs.reverse.mono (same_new n'))) h1
theorem kpe_revL {X : Cx} {e : Expr} {te : TE} {k : Nat} {p1 p2 p3 pos : Pos} (hK : X.K = K) (he : PE X e te) : PE X (.Subscript e (.Slice none none (some (.UnaryOp .USub (.Constant (.int 1) k p1) p2)) p3) pos) (tRevL K te) := by subst hK; exact pe_revL he
/-- a written dict of two texts, asked for a text -/
theorem er_dict2 {k1 k2 v1 v2 : Str} {ty : TE} (h : Er K ty Δ cs fun d cs1 => ∃ z, d = .str z ∧ ((z = k1 ∧ ¬ k1 = k2 ∧ R (.str v1) cs1) ∨ (z = k2 ∧ ¬ k1 = k2 ∧ R (.str v2) cs1))) : Er K (tDGet (tDisp [(tC (.str k1), tC (.str v1)), (tC (.str k2), tC (.str v2))]) ty) Δ cs R := by
  intro σ G H Q E I q
  intro p np
  have kn : ∀ a b : Str, (Sum.inr a : Key) = Sum.inr b ↔ a = b := fun a b => ⟨fun e => Sum.inr.inj e, fun e => by rw [e]⟩
  have e0 : mergeK [] [((Sum.inr k1 : Key), V.str v1), (Sum.inr k2, V.str v2)] = putK [((Sum.inr k1 : Key), V.str v1)] (Sum.inr k2) (V.str v2) := rfl
  refine ⟨upd_same, [((Sum.inr k1 : Key), V.str v1), (Sum.inr k2, V.str v2)], rfl, by show 2 ≤ 15; decide, ?_⟩
  rw [upd_upd, e0]
  have np' := I.same.free np
  refine h σ _ _ _ (E.mono (same_new np')) (I.fresh np) fun v d cs1 G1 H1 e1 I1 r1 ⟨z, ed, h1⟩ => ?_
  subst ed
  have ev := r1.raw_inv
  subst ev
  have hp : H1 p = some (.dK (putK [((Sum.inr k1 : Key), V.str v1)] (Sum.inr k2) (V.str v2))) := I1.same _ _ (e1 _ _ upd_same)
  have qq := (q.mono (same_new np')).mono e1
  have em : ¬ k1 = k2 → putK [((Sum.inr k1 : Key), V.str v1)] (Sum.inr k2) (V.str v2) = [((Sum.inr k1 : Key), V.str v1), (Sum.inr k2, V.str v2)] := fun ne => by
    unfold putK
    rw [if_neg]
    · rfl
    · simp [ne]
  have g := DGet.k (k := (Sum.inr z : Key)) hp
  rcases h1 with ⟨rfl, ne, h1⟩ | ⟨rfl, ne, h1⟩
  · refine ⟨p, .str v1, rfl, ?_, qq.now I1 (.raw _) h1⟩
    rw [em ne] at g
    have : valV [((Sum.inr z : Key), V.str v1), (Sum.inr k2, V.str v2)] (Sum.inr z) = some (V.str v1) := by simp [valV]
    rw [this] at g
    exact g
  · refine ⟨p, .str v2, rfl, ?_, qq.now I1 (.raw _) h1⟩
    rw [em ne] at g
    have : valV [((Sum.inr k1 : Key), V.str v1), (Sum.inr z, V.str v2)] (Sum.inr z) = some (V.str v2) := by simp [valV, ne]
    rw [this] at g
    exact g
end
end L3

/-! L3k -/
set_option maxHeartbeats 4000000
namespace L3
open PySem PySem.Spec L2
/-! ### == and != of an own class with an own __eq__ and no own __ne__ -/
structure EqCls (K : PySem.W.Frag) (C f N : Addr) : Prop where
  obj : ∃ nm q bs sn sub ab col dd k0 k1 k2 k3 k5, K.lookup C = some (excClassObj nm q C N bs [.type "object"] true sn sub ab col dd k0 k1 k2 k3 k5 "object.__new__")
  ok : PySem.W.nsOkIn K N = true
  eq : PySem.W.nsIn K N "__eq__" = some (some (.ref f))
  ne : PySem.W.nsIn K N "__ne__" = some none
  fn : PySem.W.isFn K (.ref f) = true
  at_ : PySem.W.findIn K (.ref C) "__eq__" = some (some (.ref f))
theorem ns_some_of {K : PySem.W.Frag} {h : Heap} {N : Addr} {mg : Str → Option Value} {n : Str} {v : Value} (X : K.In h) (G : h.Ns N mg) (e : PySem.W.nsIn K N n = some (some v)) : mg n = some v := by
  obtain ⟨o, es, ep, ho, hd, hz, hf⟩ := G
  unfold PySem.W.nsIn at e
  split at e
  · rename_i c d es2 n2 sl q
    have z := X _ _ q
    rw [ho] at z
    cases z
    cases hd
    split at e
    · rename_i ent hent
      cases e
      rw [← hf]
      unfold nsFind
      unfold findBy
      rw [← Array.find?_toList, hent]
      rfl
    · split at e <;> cases e
  · cases e
theorem EqCls.heap {K : PySem.W.Frag} {h : Heap} {C f N x dx : Addr} (E : EqCls K C f N) (X : K.In h) (hx : h.get? x = some (PySem.W.instObj C dx)) : h.OwnEqNoNe x C f "object" [.type "object"] := by
  obtain ⟨nm, q, bs, sn, sub, ab, col, dd, k0, k1, k2, k3, k5, hC⟩ := E.obj
  have hn : h.Ns N (h.nsMap N) := .of_isNs (PySem.W.isNs_of_in X E.ok)
  have e1 : h.nsMap N "__eq__" = some (.ref f) := ns_some_of X hn E.eq
  have e2 : h.nsMap N "__ne__" = none := PySem.W.nsMap_none_of_in X E.ok E.ne
  have hf : ∃ of, h.get? f = some of ∧ of.cls = .type "function" := by
    have e0 := beq_iff_eq.mp E.fn
    have e : (K.lookup f).map (·.cls) = some (Value.type "function") := e0
    cases hl : K.lookup f with
    | none =>
      rw [hl] at e
      cases e
    | some o =>
      rw [hl] at e
      exact ⟨o, X _ _ hl, Option.some.inj e⟩
  obtain ⟨of, h1, h2⟩ := hf
  have hB : ∃ y, typeLookup (.type "object") "__eq__" = pure y := ⟨_, F.cmp_object.eq.lookup⟩
  obtain ⟨y, hB⟩ := hB
  exact ⟨_, of, nm, q, N, bs, true, sn, sub, ab, col, dd, k0, k1, k2, k3, k5, "object.__new__", h.nsMap N, y, hx, rfl, X _ _ hC, hn, e1, h1, h2, F.cmp_object.mro, hB, e2⟩
/-- x != y; sp: what __eq__ promises -/
def rOwnNe (C : Addr) (sp : Sp) : R2 := fun x y H Q => ∃ a b dx dy fs gs, x = .ref a ∧ y = .ref b ∧ H a = some (.ins C dx fs) ∧ H b = some (.ins C dy gs) ∧ sp [.ref a, .ref b] H (fun v H' => ∃ k, v = .bl k ∧ Q (.bl (!k)) H') E0
def rOwnEq (C : Addr) (sp : Sp) : R2 := fun x y H Q => ∃ a b dx dy fs gs, x = .ref a ∧ y = .ref b ∧ H a = some (.ins C dx fs) ∧ H b = some (.ins C dy gs) ∧ sp [.ref a, .ref b] H (fun v H' => ∃ k, v = .bl k ∧ Q (.bl k) H') E0
section
variable {X : Cx} {n : Nat} {C f N : Addr} {fd : FuncData} {ps : List Str} {sp : Sp}
theorem run_eq {A : Around} {pins : List (Addr × Obj)} {s : Shared} {σ : L2.St} {H : Hp} {a b : Addr} {Q : Value → Shared → Prop} {Z : VK} {E : Value → Shared → Prop} (F : FnOk X.prog X.w X.K X.mg X.base CX0 n f fd ps sp) (hb : Binds X.K fd ps []) (hr : Room n A) (hA : A.frames = X.A.frames)
    (I : Inv X pins σ H s) (h : sp [.ref a, .ref b] H Z E0) (k : ∀ v u s' H', Inv X pins σ H' s' → RelV v u → Z v H' → Q u s') : wpAny (model X.prog X.w) A (call (.ref f) [.ref a, .ref b]) Q E s := by
  have e0 : Env0 X.prog X.w X.K X.mg X.base A X.stack s H := by
    have e := I.env0
    exact ⟨by rw [hA]; exact e.frames, e.mod, e.bs, e.bsz, e.funs, e.frf, e.hok, e.bare⟩
  have hl := F.len _ _ _ _ h
  have bb := hb s [.ref a, .ref b] I.kIn (by simpa using hl)
  rw [List.append_nil] at bb
  refine wpAny_call (codeAny_mono (F.run A X.stack s H ⟨[.ref a, .ref b], []⟩ [.ref a, .ref b] [.ref a, .ref b] Z E0 hr e0 bb (.cons rfl (.cons rfl .nil)) h) fun r s' hq => ?_)
  cases r with
  | error e => exact False.elim hq
  | ok fl =>
    cases fl with
    | ret u =>
      obtain ⟨v, H', I', rz, hz⟩ := I.after (Q := Z) hq
      exact k v u s' H' I' rz hz
    | next => exact False.elim hq
    | brk => exact False.elim hq
    | cont => exact False.elim hq
theorem op_ownNe (F : FnOk X.prog X.w X.K X.mg X.base CX0 n f fd ps sp) (E : EqCls X.K C f N) (hb : Binds X.K fd ps []) (hr : Room (n + 1) X.A) (hu : X.A.units + 1 < cLine) : OpR X (compareOp .NotEq) (rOwnNe C sp) := by
  intro pins s σ H x y v u Q I rx ry h
  obtain ⟨a, b, dx, dy, fs, gs, rfl, rfl, ha, hb', hs⟩ := h
  cases rx
  cases ry
  obtain ⟨_, _, _, ga, _⟩ := I.hok a _ ha
  obtain ⟨_, _, _, gb, _⟩ := I.hok b _ hb'
  obtain ⟨hp, g, d, t, os⟩ := s
  refine compareOp_ne_ownEq PySem.F.cmp_object (E.heap I.kIn ga) gb rfl hu ?_
  refine run_eq (A := X.A.in1) F hb (hr.in1) rfl I hs fun v u s' H' I' r ⟨k, ek, hq⟩ => ?_
  subst ek
  cases r
  exact ⟨k, rfl, .bl (!k), H', I', rfl, hq⟩
theorem op_ownEq (F : FnOk X.prog X.w X.K X.mg X.base CX0 n f fd ps sp) (E : EqCls X.K C f N) (hb : Binds X.K fd ps []) (hr : Room n X.A) : OpR X (compareOp .Eq) (rOwnEq C sp) := by
  intro pins s σ H x y v u Q I rx ry h
  obtain ⟨a, b, dx, dy, fs, gs, rfl, rfl, ha, hb', hs⟩ := h
  cases rx
  cases ry
  obtain ⟨mA, J, _⟩ := ins_get I.hok ha
  obtain ⟨mB, J', _⟩ := ins_get I.hok hb'
  obtain ⟨od, J, _⟩ := J.look
  obtain ⟨od', J', _⟩ := J'.look
  obtain ⟨m, hF⟩ := I.fr
  show wpAny (model X.prog X.w) X.A (richCompare .Eq (.ref a) (.ref b)) (EP X pins σ Q) X.xe s
  refine PySem.W.cmp_K (op := .Eq) (tb := .ref C) hr.units0 hF I.ok.mod.kin J J'.type (by simp [PySem.W.notFirst]) E.at_ E.fn ?_
  refine run_eq (A := X.A) F hb hr rfl I hs fun v u s' H' I' r ⟨k, ek, hq⟩ => ?_
  subst ek
  cases r
  exact ⟨.bl k, H', I', rfl, hq⟩
end
section
variable {K : PySem.W.Frag} {cs : Cells} {R : RK} {C : Addr} {ns ms : List Str} {ds es : List D} {F : Tr}
theorem o2_ownNe (h : F [.obj C ns ds, .obj C ms es] cs (fun d cs1 => ∃ k, d = .bl k ∧ R (.bl (!k)) cs1) X0) : O2 K (rOwnNe C (spA K F)) (.obj C ns ds) (.obj C ms es) cs R := fun v w G H Q rv rw' I q => by
  obtain ⟨p, dx, fs, rfl, hp, _⟩ := id rv.obj_inv
  obtain ⟨p2, dx2, fs2, rfl, hp2, _⟩ := id rw'.obj_inv
  refine ⟨p, p2, dx, dx2, fs, fs2, rfl, rfl, I.same _ _ hp, I.same _ _ hp2, G, cs, _, _, X0, I, .cons rv (.cons rw' .nil), h, fun v d cs' G' H' e I' r ⟨k, ek, hk⟩ => ?_, xq0⟩
  subst ek
  exact ⟨k, r.raw_inv, (q.mono e).now I' (.raw _) hk⟩
theorem o2_ownEq (h : F [.obj C ns ds, .obj C ms es] cs (fun d cs1 => ∃ k, d = .bl k ∧ R (.bl k) cs1) X0) : O2 K (rOwnEq C (spA K F)) (.obj C ns ds) (.obj C ms es) cs R := fun v w G H Q rv rw' I q => by
  obtain ⟨p, dx, fs, rfl, hp, _⟩ := id rv.obj_inv
  obtain ⟨p2, dx2, fs2, rfl, hp2, _⟩ := id rw'.obj_inv
  refine ⟨p, p2, dx, dx2, fs, fs2, rfl, rfl, I.same _ _ hp, I.same _ _ hp2, G, cs, _, _, X0, I, .cons rv (.cons rw' .nil), h, fun v d cs' G' H' e I' r ⟨k, ek, hk⟩ => ?_, xq0⟩
  subst ek
  exact ⟨k, r.raw_inv, (q.mono e).now I' (.raw _) hk⟩
end
end L3

/-! L3l -/
set_option maxHeartbeats 4000000
namespace L3
open PySem L2
/-! ### data compared at any depth -/
mutual
def pdD : D → PyData
  | .raw (.bl b) => .bool b
  | .raw (.int i) => .int i
  | .raw (.str s) => .str s
  | .raw _ => .none
  | .tup xs => .tuple (pdL xs)
  | .lst xs => .list (pdL xs)
  | .ro xs => .list (pdL xs)
  | .obj _ _ _ => .none
  | .exc _ _ _ _ => .none
def pdL : List D → List PyData
  | [] => []
  | x :: xs => pdD x :: pdL xs
end
mutual
def okD : D → Bool
  | .raw .non => true
  | .raw (.bl _) => true
  | .raw (.int _) => true
  | .raw (.str _) => true
  | .raw _ => false
  | .tup xs => okL xs
  | .lst xs => okL xs
  | .ro xs => okL xs
  | .obj _ _ _ => false
  | .exc _ _ _ _ => false
def okL : List D → Bool
  | [] => true
  | x :: xs => okD x && okL xs
end
mutual
theorem dp_of {K : PySem.W.Frag} {G H : Hp} (s : Same G H) : ∀ {v : V} {d : D}, Rep K G v d → okD d = true → Dp K H v (pdD d)
  | _, .raw (.bl b), r, _ => by rw [r.raw_inv]; exact .bl b
  | _, .raw (.int b), r, _ => by rw [r.raw_inv]; exact .int b
  | _, .raw (.str b), r, _ => by rw [r.raw_inv]; exact .str b
  | _, .raw .non, r, _ => by rw [r.raw_inv]; exact .non
  | _, .tup xs, r, h => by
    obtain ⟨p, vs, rfl, hp, rs⟩ := r.tup_inv
    exact .tup (seqT s hp) (dpL_of s rs h)
  | _, .lst xs, r, h => by
    obtain ⟨p, vs, rfl, hp, rs⟩ := r.lst_inv
    exact .lst (s.seq hp) (dpL_of s rs h)
  | _, .ro xs, r, h => by
    obtain ⟨p, vs, rfl, hp, rs⟩ := r.ro_inv
    exact .lst (s.seq hp) (dpL_of s rs h)
  | _, .raw (.byt b), r, h => by cases h
  | _, .raw (.flt b), r, h => by cases h
  | _, .raw (.ref b), r, h => by cases h
  | _, .raw (.ty b), r, h => by cases h
  | _, .obj _ _ _, r, h => by cases h
  | _, .exc _ _ _ _, r, h => by cases h
theorem dpL_of {K : PySem.W.Frag} {G H : Hp} (s : Same G H) : ∀ {vs : List V} {ds : List D}, Reps K G vs ds → okL ds = true → DpAll K H vs (pdL ds)
  | _, [], r, _ => by cases r; exact .nil
  | _, x :: xs, r, h => by
    cases r with
    | cons a b =>
      have h1 : (okD x && okL xs) = true := h
      rw [Bool.and_eq_true] at h1
      exact .cons (dp_of s a h1.1) (dpL_of s b h1.2)
end
section
variable {K : PySem.W.Frag} {cs : Cells} {R : RK} {x y : D}
theorem o2_eqD (hx : okD x = true) (hy : okD y = true) (sx : SeqAt.shaped (pdD x) = true) (sy : SeqAt.shaped (pdD y) = true) (h : R (.bl (PyData.eqv (pdD x) (pdD y))) cs) : O2 K (rEqD K) x y cs R := fun v w G H Q rv rw' I q =>
  ⟨_, _, dp_of I.same rv hx, dp_of I.same rw' hy, sx, sy, q.now I (.raw _) h⟩
theorem o2_neD (hx : okD x = true) (hy : okD y = true) (sx : SeqAt.shaped (pdD x) = true) (sy : SeqAt.shaped (pdD y) = true) (h : R (.bl (!PyData.eqv (pdD x) (pdD y))) cs) : O2 K (rNeD K) x y cs R := fun v w G H Q rv rw' I q =>
  ⟨_, _, dp_of I.same rv hx, dp_of I.same rw' hy, sx, sy, q.now I (.raw _) h⟩
theorem kop_eqD {X : Cx} (hK : X.K = K) (hu : X.A.units + 64 < cLine) : OpR X (compareOp .Eq) (rEqD K) := by subst hK; exact op_eqD hu
theorem kop_neD {X : Cx} (hK : X.K = K) (hu : X.A.units + 64 < cLine) : OpR X (compareOp .NotEq) (rNeD K) := by subst hK; exact op_neD hu
theorem okL_ints : ∀ (ns : List Int), okL (ns.map D.int) = true
  | [] => rfl
  | _ :: r => okL_ints r
theorem pdL_ints : ∀ (ns : List Int), pdL (ns.map D.int) = ns.map PyData.int
  | [] => rfl
  | n :: r => by
    show PyData.int n :: pdL (r.map D.int) = _
    rw [pdL_ints r]
    rfl
theorem shaped_ints (ns : List Int) : SeqAt.shaped (.tuple (ns.map PyData.int)) = true := by
  have h1 : ∀ l : List Int, PyData.canLayAll0 (l.map PyData.int) = true := by
    intro l
    induction l with
    | nil => rfl
    | cons a r ih => exact ih
  have h2 : ∀ l : List Int, PyData.depthAll (l.map PyData.int) = 0 := by
    intro l
    induction l with
    | nil => rfl
    | cons a r ih =>
      show max 0 (PyData.depthAll (r.map PyData.int)) = 0
      rw [ih]
      rfl
  unfold SeqAt.shaped
  show (PyData.canLayAll0 (ns.map PyData.int) && decide (PyData.depthAll (ns.map PyData.int) + 1 ≤ 64)) = true
  rw [h1, h2]
  rfl
theorem eqv_ints : ∀ (ns ms : List Int), PyData.eqvAll (ns.map PyData.int) (ms.map PyData.int) = decide (ns = ms)
  | [], [] => rfl
  | [], _ :: _ => rfl
  | _ :: _, [] => rfl
  | a :: r, b :: q => by
    show ((a == b) && PyData.eqvAll (r.map PyData.int) (q.map PyData.int)) = _
    rw [eqv_ints r q, Bool.eq_iff_iff]
    simp
/-- isinstance(x, C) of an object of C -/
structure IsiC (K : PySem.W.Frag) (C : Addr) : Prop where
  cl : Cls K C
  ha : PySem.W.findIn K (.ref C) "__class__" = some (some (.builtin "object.__class__"))
  hn : PySem.W.specialIn K (.builtin "object.__class__") "__get__" = some (some (.builtin "getset_descriptor.__get__"))
  ht : PySem.W.takesIn K (.builtin "object.__class__") = some true
  hm : PySem.W.mroIn K C (.type "object") = some true
  self : PySem.W.kitOne K (.ref C) (.ref C) = some true
theorem oa_isiC {C : Addr} {ns : List Str} {ds : List D} (E : IsiC K C) (h : R (.bl true) cs) : Oa K (rIsi K) [.obj C ns ds, .raw (.ref C)] cs R := fun vs G H Q r I q => by
  obtain ⟨v, w, rfl, rv, rw'⟩ := reps2 r
  obtain ⟨p, dx, fs, rfl, hp, _⟩ := rv.obj_inv
  rw [rw'.raw_inv]
  exact ⟨.ref p, .ref C, .ref C, .ref C, true, rfl, .own C, .base (.ins (I.same _ _ hp) E.cl E.ha E.hn E.ht E.hm), E.self, q.now I (.raw _) h⟩
end
/-- a class's own names are all texts -/
def strKeys (es : List DictEntry) : Bool := es.all fun e => match e.key with
  | .str _ _ => true
  | _ => false
theorem nsOk_of {K : PySem.W.Frag} {N : Addr} {c : Value} {d : Option Addr} {es : Array DictEntry} {n : Nat} {sl : Array (Option Value)} (h : K.lookup N = some ⟨c, d, .dict es n, sl⟩) (e : strKeys es.toList = true) : PySem.W.nsOkIn K N = true := by
  have e2 : (es.toList.all fun e => match e.key with | .str _ _ => true | _ => false) = true := e
  unfold PySem.W.nsOkIn
  rw [h]
  show (es.all fun e => match e.key with | .str _ _ => true | _ => false) = true
  rw [← Array.all_toList]
  exact e2
end L3

/-! L3m -/
set_option maxHeartbeats 4000000
namespace L3
open PySem PySem.Spec PyProof.Rows L2
/-! ### raise C(), C an own class that has no __init__ of its own -/
section
variable {X : Cx} {C : Addr} {bmB : List Value} {B newId initId : String} {x : Str} {W : WX} {p pos pos2 : Pos}
def tRaise0 (C : Addr) (W : WX) : TS := fun _ σ H => W (.ref C) none σ H
theorem mk_noarg (F : ExcBaseFacts B newId initId bmB) (q : PySem.W.excIn X.K C bmB newId = true) (gC : X.mg x = some (.ref C)) (kC : PySem.W.keepIn X.K (.ref C) = true) (r : Raises X (.ref C)) (hg : Gl X x)
    (hdb : (x == ("__debug__" : Str)) = false) : PMk X (.Call (.Name x p) [] [] pos) (fun _ H Q => Q (.ref C) none H) := by
  intro pins s σ H Q I hQ
  refine wpAny_Call_Name_kw (ld_glob I hg gC (PySem.W.callWith_K0 I.kIn kC ?_) hdb)
  have z := exc_obj I.kIn q
  obtain ⟨_, _, _, _, _, _, _, _, _, _, _, _, _, _, _, _, _, a, b, c, T⟩ := z
  exact wpAny_call_exc_subT F T a b c (fun _ _ m => mk_of I m r hQ (I.hok.gone m.new)) (Nat.zero_le _)
theorem ps_raise0 (hc : X.calm = true) (tk : Takes X W) (F : ExcBaseFacts B newId initId bmB) (q : PySem.W.excIn X.K C bmB newId = true) (gC : X.mg x = some (.ref C)) (kC : PySem.W.keepIn X.K (.ref C) = true)
    (h1 : PySem.W.subIn X.K (.ref C) (.type "BaseException") = some true) (h2 : PySem.W.typeIn X.K (.ref C) = some (.type "type")) (hg : Gl X x := by rfl)
    (hdb : (x == ("__debug__" : Str)) = false := by decide) : PS X (.Raise (some (.Call (.Name x p) [] [] pos)) none pos2) (tRaise0 C W) :=
  ps_raise hc tk (mk_noarg F q gC kC (raises_own h1 h2) hg hdb)
end
section
variable {K : PySem.W.Frag} {Δ : Env} {cs : Cells} {A : AE} {X : XA} {E : XK} {C : Addr}
theorem xs_raise (hiv : ∀ G, A.iv G → XQ K G X E) (h : X (.ref C) [] cs) : Xs K (tRaise0 C fun cls d _ H => E cls d H) A Δ cs := fun σ G H D Ev I q =>
  hiv G (q.iv G (Same.refl G)) _ none [] cs G H (Same.refl G) I (.inl ⟨rfl, rfl⟩) h
end
theorem pass_never {P : Program} {w : World} {X : Cx} : Passes (L2.CX P w) X E0 := fun _ _ _ _ _ _ _ ⟨_, _, _, _, _, _, _, _, _, _, _, _, e⟩ => e.elim
/-! ### o.m(e, ..) in a try's body: its exceptions are wished for at the slots -/
def tMethW (C : Addr) (m : Str) (sp : Sp) (E : L2.St → XK) (ta : TE) (t : TA) : TE := fun σ H Q => ta σ H fun x H1 => ∃ a dx fs, x = .ref a ∧ H1 a = some (.ins C dx fs) ∧ fs.lookup m = none ∧ t σ H1 fun vs H2 => sp (.ref a :: vs) H2 Q (E σ)
section
variable {X : Cx} {CX : CXT} {k : Nat} {f C : Addr} {fd : FuncData} {ps : List Str} {sp : Sp} {E : L2.St → XK} {m : Str} {pos apos : Pos} {e o : Expr} {es : List Expr} {ta : TE} {t : TA}
theorem pe_methW {pl : Sem Bool} (he : PE X o ta) (c : Cls X.K C) (hm : Meth X.K C m f) (F : FnOk X.prog X.w X.K X.mg X.base CX k f fd ps sp) (hr : Room k X.A) (hb : Binds X.K fd ps []) (hx : ∀ σ, PassesAt CX X σ (E σ)) (ha : PA X (e :: es) t)
    (hst : starEach (e :: es) X.env = (false, eval e X.env) :: starEach es X.env := by rfl) (hpl : (backTo pos (starEach es X.env)).any (·.1) = false := by rfl)
    (ht : eval (.Call (.Attribute o m apos) (e :: es) [] pos) X.env = (eval o X.env >>= fun ov => standAt apos.atName >>= fun _ => holding [ov] (getMethod ov m pl) >>= fun fp =>
      callWith pos fp.1 fp.2 (backTo pos (starEach (e :: es) X.env)) (backToKw pos (keywordEach [] X.env))) := by rfl) :
    PE X (.Call (.Attribute o m apos) (e :: es) [] pos) (tMethW C m sp E ta t) := by
  refine ⟨fun pins s σ H Q I h => PySem.W.methodCall_KW (pl := pl) (thn (he.run pins s σ H _ I h) fun u s1 hh => ?_) ht⟩
  obtain ⟨x, H1, I1, rx, a, dx, fs, rfl, ea, l, q⟩ := hh
  have eu : u = Value.ref a := rx
  subst eu
  refine getmeth_ok I1 ea c hm l (PySem.W.callWith_K (first := [.ref a]) (h₀ := X.base) I.ok.mod.kin hm.kp (thn (ha.run pos pins s1 σ H1 _ I1 q) fun us s2 h2 => ?_) hst hpl)
  obtain ⟨vs, H2, I2, r, q2⟩ := h2
  exact ⟨I2.kIn, run_fnS (us := .ref a :: us) (vs := .ref a :: vs) F hr hb (hx σ) I2 (.cons rfl r) q2⟩
end
section
variable {K : PySem.W.Frag} {Δ : Env} {cs : Cells} {A : AE} {C : Addr} {m : Str} {F : Tr} {ta : TE} {t : TA} {i j : Nat} {c : Value} {ts : Addr → Value → Option Addr → TS}
/-- j = o.m(e, ..), under except c as i: ts -/
theorem xs_tryMeth (h : Er K ta Δ cs fun x cs1 => ∃ ns ds, x = .obj C ns ds ∧ m ∉ ns ∧ Ea K t Δ cs1 fun xs cs2 => F (x :: xs) cs2 (fun d cs' => A.nx (Δ.set j (some d)) cs')
    (fun cls pl cs' => pl = [] ∧ PySem.W.exmOne K cls c = some true ∧ ∀ a, Xs K (ts a cls none) { A with nx := fun Δ' cs' => A.nx (Δ'.set i none) cs', bk := fun Δ' cs' => A.bk (Δ'.set i none) cs', ct := fun Δ' cs' => A.ct (Δ'.set i none) cs' } (Δ.set i (some (.raw (.ref a)))) cs')) :
    Xs K (fun D σ H => tAsg (tMethW C m (spA K F) (WE (wAs K c i ts (fun _ _ _ _ => False) D)) ta t) (gName j) D σ H) A Δ cs := fun σ G H D Ev I q =>
  h σ G H _ Ev I fun v x cs1 G1 H1 e1 I1 r1 ⟨ns, ds, ex, hm, h1⟩ => by
    subst ex
    obtain ⟨p, dx, fs, rfl, hp, hn, rs⟩ := id r1.obj_inv
    refine ⟨p, dx, fs, rfl, I1.same _ _ hp, lookup_none (by rw [hn]; exact hm), ?_⟩
    refine h1 σ G1 H1 _ (Ev.mono e1) I1 fun vs xs cs2 G2 H2 e2 I2 r2 h2 => ⟨G2, cs2, _, _, _, I2, .cons (r1.mono e2) r2, h2, fun v d cs' G' H' e I' r hd => ?_, fun cls d pl cs' G' H' e I' x ⟨ep, hx, hs⟩ => ?_⟩
    · exact q.nx _ _ cs' G' H' ((e1.trans e2).trans e) ((Ev.mono ((e1.trans e2).trans e)).set r j) I' hd
    · refine ⟨true, hx, fun _ a na => ?_, fun z => absurd z.symm Bool.false_ne_true⟩
      have ed : d = none := by
        rcases x with ⟨ed, _⟩ | ⟨_, _, x, _⟩
        · exact ed
        · exact absurd ep x
      subst ed
      have e3 := (e1.trans e2).trans e
      refine hs a _ G' H' _ ((Ev.mono e3).set (.raw _) i) I' ⟨?_, q.rt.mono e3, ?_, ?_, fun G9 e9 => q.iv G9 (e3.trans e9)⟩
      · intro σ' Δ' cs5 G5 H5 e5 E5 I5 n5
        exact q.nx _ _ cs5 G5 H5 (e3.trans e5) (E5.none i) I5 n5
      · intro σ' Δ' cs5 G5 H5 e5 E5 I5 n5
        exact q.bk _ _ cs5 G5 H5 (e3.trans e5) (E5.none i) I5 n5
      · intro σ' Δ' cs5 G5 H5 e5 E5 I5 n5
        exact q.ct _ _ cs5 G5 H5 (e3.trans e5) (E5.none i) I5 n5
end
section
variable {X : Cx} {P : Prop} {ss : List Stmt} {t : TS}
/-- a suite that is read for one class alone -/
theorem pss_pre (h : P → PSs X ss t) : PSs X ss (fun D σ H => P ∧ t D σ H) := ⟨fun pins s σ H D I ⟨hp, q⟩ => (h hp).run pins s σ H D I q⟩
def rReprB : List V → Hp → VK → Prop := fun xs H Q => ∃ b, xs = [.bl b] ∧ Q (.str (if b then "True" else "False")) H
theorem call_reprB : CallR X (.builtin "repr") rReprB := by
  intro pins s σ H xs us Q I r h
  obtain ⟨b, rfl, q⟩ := h
  obtain ⟨u, rfl, e⟩ := vals1 r
  have eu : u = Value.bool b := e
  subst eu
  exact PySem.P.repr_of_bool ⟨.str _, H, I.tok _, ⟨_, rfl⟩, q⟩
end
section
variable {K : PySem.W.Frag} {cs : Cells} {R : RK} {C D a : Addr} {b : Bool} {Δ : Env} {A : AE} {P : Prop} {t : TS}
theorem oa_reprB (h : R (.str (if b then "True" else "False")) cs) : Oa K rReprB [.bl b] cs R := oa_V1 (fun H Q q => ⟨b, rfl, q⟩) h
theorem oa_isE (e : PySem.W.kitOne K (.ref D) (.ref C) = some b) (h : R (.bl b) cs) : Oa K (rIsE K D a) [.raw (.ref a), .raw (.ref C)] cs R :=
  oa_V2 (v := .ref C) (fun H Q q => ⟨.ref C, .ref C, b, rfl, fun u r => r, e, q⟩) h
theorem xs_pre (hp : P) (h : Xs K t A Δ cs) : Xs K (fun D σ H => P ∧ t D σ H) A Δ cs := fun σ G H D E I q => ⟨hp, h σ G H D E I q⟩
theorem kit_own (h : PySem.W.hasDictIn K C = true) (ht : PySem.W.typeIn K (.ref C) = some (.type "type")) (hs : PySem.W.subIn K (.ref D) (.ref D) = some true) (e : PySem.W.subIn K (.ref D) (.ref C) = some b) : PySem.W.kitOne K (.ref D) (.ref C) = some b := by
  unfold PySem.W.kitOne
  split
  · rename_i q
    have q2 : Value.ref D = Value.ref C := beq_iff_eq.mp q
    rw [← q2, hs] at e
    exact e
  · obtain ⟨cd, hc, _⟩ := PySem.W.any_some h
    unfold PySem.W.kitCls
    show (if ((PySem.W.clsIn K C).isSome && PySem.W.typeIn K (.ref C) == some (.type "type")) = true then _ else _) = _
    rw [if_pos (by rw [hc, ht] <;> rfl)]
    exact e
end
end L3

/-! L3n -/
set_option maxHeartbeats 4000000
namespace L3
open PySem PySem.Spec PyProof.Rows L2
/-! ### enumerate(text) -/
def Ites (x : Str) : It := ⟨fun i _ => i < x.cps.size, fun i H v H' => ∃ T c, v = .ref T ∧ H T = none ∧ x.cps[i]? = some c ∧ H' = upd H T (.tup [.int (i : Nat), .str ⟨#[c]⟩]), fun i _ => i = x.cps.size⟩
theorem turn_enumS {P : Program} {w : World} {K : PySem.W.Frag} {elts : List Expr} {kk : Nat} {tpos : Pos} (x : Str) (t : Tok) (e it : Addr) :
    Turn P w K (.Tuple elts kk tpos) (Ites x) [e, it] e (fun i h => (∃ old, IsEnum h e it ((i : Nat) : Int) old) ∧ h.IsStrIter it (strIterType x) x t i ∧ e ≠ it) where
  mem := by simp
  obj := fun i h st b hb => by
    obtain ⟨⟨old, he⟩, ⟨o, ho, hc, hd⟩, _⟩ := st
    have e' : b = e ∨ b = it := by simpa using hb
    rcases e' with z | z
    · rw [z]; exact ⟨_, he, fun v q => nomatch q⟩
    · rw [z]; exact ⟨o, ho, fun v q => by rw [hd] at q; cases q⟩
  keep := fun i h h' st k => let ⟨⟨old, he⟩, ⟨o, ho, r⟩, hne⟩ := st; ⟨⟨old, k e (by simp) _ he⟩, ⟨o, k it (by simp) o ho, r⟩, hne⟩
  item := by
    intro X hP hw hK hc i pins s σ H E I hf st hg
    subst hP hw hK
    obtain ⟨⟨old, he⟩, hit, hne⟩ := st
    have hel : e < s.heap.objs.size := Heap.lt_size he
    have hil : it < s.heap.objs.size := by obtain ⟨_, q, _⟩ := hit; exact Heap.lt_size q
    have hh : X.A.in1.handled = none := I.ok.hd hc
    refine wpAny_pyNext_enum_itemD (Draws.text hh it x t) he hit hg hne (by simp [hne]) fun u h' tk hP ho hit' hT hsz hk => ?_
    obtain ⟨c, tu, hcx, rfl⟩ := hP
    refine ⟨_, rfl, wpAny_letOwnedTupleGo_enum (s := { s with heap := h', toks := tk + 1 }) ho fun h'' he' sb => ?_⟩
    have hT2 : h''.get? s.heap.objs.size = some { cls := .type "tuple", data := .seq #[.int i tk, .str ⟨#[c]⟩ tu] } := (sb.2 _ (Nat.ne_of_gt hel)).trans hT
    have new : ObjOk X.prog X.w (upd H s.heap.objs.size (.tup [.int (i : Nat), .str ⟨#[c]⟩])) h'' s.heap.objs.size (.tup [.int (i : Nat), .str ⟨#[c]⟩]) :=
      ⟨by show 2 ≤ sizeLine; decide, [.int i tk, .str ⟨#[c]⟩ tu], .cons ⟨_, rfl⟩ (.cons ⟨_, rfl⟩ .nil), ⟨_, hT2, rfl, _, rfl⟩⟩
    have I1 : Inv X pins σ (upd H s.heap.objs.size (.tup [.int (i : Nat), .str ⟨#[c]⟩])) { s with heap := h'', toks := tk + 1 } :=
      I.turnedNew (ch := [e, it]) (fun b ob hb q => (sb.2 b (fun z => hb (by simp [z]))).trans (hk b ob (fun z => hb (by simp [z])) (fun z => hb (by simp [z])) q)) hf (Nat.le_refl _) new
    refine ⟨.ref s.heap.objs.size, _, I1, rfl, ⟨_, c, rfl, I.hok.fresh (Nat.le_refl _), hcx, rfl⟩, ⟨⟨.str ⟨#[c]⟩ tu, ?_⟩, ?_, hne⟩, fun b hb => ?_⟩
    · have e1 : ((i + 1 : Nat) : Int) = (i : Int) + 1 := by omega
      rw [e1]; exact he'
    · obtain ⟨o, ho2, r⟩ := hit'
      exact ⟨o, (sb.2 it (Ne.symm hne)).trans ho2, r⟩
    · have hb' : b < s.heap.objs.size := by
        have e' : b = e ∨ b = it := by simpa using hb
        rcases e' with z | z
        · rw [z]; exact hel
        · rw [z]; exact hil
      rw [upd_ne (Nat.ne_of_lt hb')]
      exact (hf b hb).1
  done := by
    intro X hP hw hK hc i pins s σ H E I hf st hg
    subst hP hw hK
    obtain ⟨⟨old, he⟩, hit, hne⟩ := st
    obtain ⟨f0, f1, f2, f3, f4, f5⟩ := hf it (by simp)
    have hh : X.A.in1.handled = none := I.ok.hd hc
    have hg' : i = x.cps.size := hg
    rw [hg'] at hit
    exact wpAny_pyNext_enum_endD (Draws.text hh it x t) he hit fun h' eb => ⟨rfl, I.turned (t' := s.toks) (fun b o hb q => eb b o hb q) f0 f1 f3 f4 f5⟩
  self := fun A i s Q E st h => let ⟨⟨_, he⟩, _⟩ := st; wpAny_pyIter_enum he h
def iEnumS (ta : TA) : TI := fun σ H R => ta σ H fun vs H1 => ∃ x, vs = [.str x] ∧ R (Ites x) H1
theorem pi_enumS {X : Cx} {e : Expr} {ta : TA} {p pos tpos : Pos} {elts : List Expr} {kk : Nat} (hg : Gl X "enumerate") (hm : X.mg "enumerate" = none) (ha : PA X [e] ta) (hs : starEach [e] X.env = [(false, eval e X.env)] := by rfl) :
    PI X (.Tuple elts kk tpos) (.Call (.Name "enumerate" p) [e] [] pos) (iEnumS ta) := by
  refine ⟨fun pins s σ H R I h => ?_⟩
  refine Call_ (ld_blt I hg hm boot_enumerate (PyProof.Rows.callWith_type1 (thn (ha.run pos pins s σ H _ I h) fun us s1 ⟨vs, H1, I1, r1, q1⟩ => ?_) hs rfl))
  obtain ⟨x, ex, q⟩ := q1
  subst ex
  cases r1 with
  | cons r rr =>
    cases rr
    obtain ⟨t, rfl⟩ := r
    refine call_enumerate_str fun h' he hit hsz hk => wpAny_pyIter_enum he ?_
    have I2 : Inv X pins σ H1 { s1 with heap := h' } := I1.kept (t' := s1.toks) hk
    refine ⟨s1.heap.objs.size + 1, [s1.heap.objs.size + 1, s1.heap.objs.size], _, _, H1, rfl, I2, turn_enumS x t (s1.heap.objs.size + 1) s1.heap.objs.size, ⟨⟨.none, he⟩, hit, Nat.succ_ne_self _⟩, fun b hb => ?_, q⟩
    have e' : b = s1.heap.objs.size + 1 ∨ b = s1.heap.objs.size := by simpa using hb
    have hle : s1.heap.objs.size ≤ b := by
      rcases e' with z | z
      · rw [z]; exact Nat.le_add_right _ _
      · rw [z]; exact Nat.le_refl _
    exact I1.fpOk hle (I1.hok.fresh hle)
/-! ### text.count(text), sum -/
def rCount : V → List V → Hp → VK → Prop := fun x xs H Q => ∃ a b, x = .str a ∧ xs = [.str b] ∧ Q (.int (Txt.count a b)) H
theorem pe_count {X : Cx} {o e : Expr} {to te : TE} {apos pos : Pos} (ho : PE X o to) (he : PE X e te) (hs : starEach [e] X.env = [(false, eval e X.env)] := by rfl) (hbase : attributeBase o "count" X.env (eval o X.env) = eval o X.env := by rfl) (hline : (apos.endLine == pos.line) = true := by rfl) :
    PE X (.Call (.Attribute o "count" apos) [e] [] pos) (tM1 rCount to te) := pe_m1 PySem.F.slot_str_count PySem.F.type_str_count mt_count ho he hs hbase hline
def rSumI (K : PySem.W.Frag) : List V → Hp → VK → Prop := fun vs H Q => ∃ (a : Addr) (ns : List Int), vs = [V.ref a] ∧ SqL K H a (ns.map V.int) ∧ Q (.int ns.sum) H
theorem kcr_sum {X : Cx} {K : PySem.W.Frag} (hK : X.K = K) (hc : X.calm = true) : CallR X (.builtin "sum") (rSumI K) := by subst hK; exact cr_sum hc
/-! ### raise C(e), C an own class whose __init__ keeps its one argument -/
/-- what such an __init__ promises -/
def spErr (C : Addr) (f : Str) : Sp := fun vs H Q _ => ∃ a v, vs = [.ref a, v] ∧ H a = some (exo a C none) ∧ ∀ d, H d = none → d ≠ a → Q .non (upd (upd H d (exd d [(f, v)])) a (exo a C (some d)))
theorem spErr_len (C : Addr) (f : Str) : ∀ vs H Q E, spErr C f vs H Q E → vs.length = 2 := fun vs H Q E ⟨_, _, e, _⟩ => by rw [e]; rfl
def tRaiseF (C : Addr) (f : Str) (ta : TA) (W : WX) : TS := fun _ σ H => tMkO C (spErr C f) [] ta σ H fun cls d H' => W cls d σ H'
section
variable {K : PySem.W.Frag} {G G' H H' : Hp} {σ : L2.St} {Δ : Env} {cs : Cells} {R : RK} {ta tb tc te to : TE} {d x y : D} {ds es : List D} {A : AE} {t : TA} {u : TS}
/-! ### range(i, j) -/
def rangeD2 (i : Int) (n : Nat) : List D := (List.range n).map fun (k : Nat) => D.int (i + k)
theorem rangeD2_len (i : Int) (n : Nat) : (rangeD2 i n).length = n := by simp [rangeD2]
theorem rangeD2_get {j : Int} {n i : Nat} {d : D} (h : (rangeD2 j n)[i]? = some d) : i < n ∧ d = .int (j + i) := by
  unfold rangeD2 at h
  rw [List.getElem?_map] at h
  cases e : (List.range n)[i]? with
  | none => rw [e] at h; cases h
  | some k =>
    rw [e] at h
    obtain ⟨h1, h2⟩ := List.getElem?_eq_some_iff.mp e
    rw [List.getElem_range] at h2
    rw [List.length_range] at h1
    subst h2
    exact ⟨h1, (Option.some.inj h).symm⟩
theorem ei_range2 {ta : TA} {R : RsK} (h : Ea K ta Δ cs fun xs cs1 => ∃ i j : Int, xs = [.int i, .int j] ∧ (-(2 ^ 62) ≤ i ∧ i < 2 ^ 62 ∧ -(2 ^ 62) ≤ j ∧ j < 2 ^ 62) ∧ R (rangeD2 i (j - i).toNat) cs1) : Ei K (iRng2 ta) Δ cs R := fun σ G H Rr E I q =>
  h σ G H _ E I fun vs ds cs1 G1 H1 e1 I1 r1 ⟨a, b, ed, hb, h1⟩ => by
    subst ed
    have ev : vs = [V.int a, V.int b] := Reps.raws (ws := [V.int a, V.int b]) r1
    refine ⟨a, b, ev, hb, q _ _ cs1 G1 H1 e1 I1 ⟨fun i H' hi s => ?_, fun H' s => ?_, fun i H' x H2 G2 cs2 d hd s I2 y => ?_⟩ h1⟩
    · rw [rangeD2_len] at hi
      exact hi
    · rw [rangeD2_len]
      exact Nat.le_refl _
    · obtain ⟨rfl, rfl⟩ := y
      obtain ⟨_, rfl⟩ := rangeD2_get hd
      exact ⟨G2, Same.refl G2, I2, .raw _⟩
/-! ### range(i, j, c) -/
def rangeD3 (i c : Int) (n : Nat) : List D := (List.range n).map fun (k : Nat) => D.int (i + k * c)
theorem rangeD3_len (i c : Int) (n : Nat) : (rangeD3 i c n).length = n := by simp [rangeD3]
theorem rangeD3_get {j c : Int} {n i : Nat} {d : D} (h : (rangeD3 j c n)[i]? = some d) : i < n ∧ d = .int (j + i * c) := by
  unfold rangeD3 at h
  rw [List.getElem?_map] at h
  cases e : (List.range n)[i]? with
  | none => rw [e] at h; cases h
  | some k =>
    rw [e] at h
    obtain ⟨h1, h2⟩ := List.getElem?_eq_some_iff.mp e
    rw [List.getElem_range] at h2
    rw [List.length_range] at h1
    subst h2
    exact ⟨h1, (Option.some.inj h).symm⟩
theorem ei_range3 {ta : TA} {R : RsK} (h : Ea K ta Δ cs fun xs cs1 => ∃ (i j c : Int) (n : Nat), xs = [.int i, .int j, .int c] ∧ RgC i j c n ∧ R (rangeD3 i c n) cs1) : Ei K (iRng3 ta) Δ cs R := fun σ G H Rr E I q =>
  h σ G H _ E I fun vs ds cs1 G1 H1 e1 I1 r1 ⟨a, b, c, n, ed, hb, h1⟩ => by
    subst ed
    have ev : vs = [V.int a, V.int b, V.int c] := Reps.raws (ws := [V.int a, V.int b, V.int c]) r1
    refine ⟨a, b, c, n, ev, hb, q _ _ cs1 G1 H1 e1 I1 ⟨fun i H' hi s => ?_, fun H' s => ?_, fun i H' x H2 G2 cs2 d hd s I2 y => ?_⟩ h1⟩
    · rw [rangeD3_len] at hi
      exact hi
    · rw [rangeD3_len]
      exact Nat.le_refl _
    · obtain ⟨rfl, rfl⟩ := y
      obtain ⟨_, rfl⟩ := rangeD3_get hd
      exact ⟨G2, Same.refl G2, I2, .raw _⟩
/-! ### repr of an int -/
def rReprI : List V → Hp → VK → Prop := fun xs H Q => ∃ i, xs = [.int i] ∧ i.natAbs.log2 < 1920 ∧ Q (.str (toString i)) H
theorem call_reprI {X : Cx} : CallR X (.builtin "repr") rReprI := SkE.call_repr_int
theorem oa_reprI {i : Int} (hi : i.natAbs.log2 < 1920) (h : R (.str (toString i)) cs) : Oa K rReprI [.int i] cs R := oa_V1 (fun H Q q => ⟨i, rfl, hi, q⟩) h
/-! ### enumerate(text), by data -/
def enumS (z : Str) : List D := (signsD z).mapIdx fun i d => D.tup [.int (i : Nat), d]
theorem enumS_len (z : Str) : (enumS z).length = z.cps.size := by simp [enumS, signsD]
theorem enumS_get {z : Str} {i : Nat} {d : D} (h : (enumS z)[i]? = some d) : ∃ c, (sgn z)[i]? = some c ∧ d = .tup [.int (i : Nat), .str ⟨#[c]⟩] := by
  unfold enumS signsD at h
  rw [List.getElem?_mapIdx, List.getElem?_map] at h
  cases e : z.cps.toList[i]? with
  | none => rw [e] at h; cases h
  | some c =>
    rw [e] at h
    exact ⟨c, e, (Option.some.inj h).symm⟩
theorem ei_enumS {ta : TA} {R : RsK} (h : Ea K ta Δ cs fun xs cs1 => ∃ z, xs = [.str z] ∧ R (enumS z) cs1) : Ei K (iEnumS ta) Δ cs R := fun σ G H Rr E I q =>
  h σ G H _ E I fun ws xs cs1 G1 H1 e1 I1 r1 ⟨z, ed, h1⟩ => by
    subst ed
    have ev : ws = [V.str z] := Reps.raws (ws := [V.str z]) r1
    refine ⟨z, ev, q _ _ cs1 G1 H1 e1 I1 ⟨fun i H' hi s => ?_, fun H' s => ?_, fun i H' x H2 G2 cs2 d hd s I2 y => ?_⟩ h1⟩
    · rw [enumS_len] at hi
      exact hi
    · exact enumS_len z
    · obtain ⟨T, c, rfl, nT, hc, rfl⟩ := y
      obtain ⟨c2, hc2, rfl⟩ := enumS_get hd
      have ec : c2 = c := by
        have : z.cps.toList[i]? = some c := by rw [Array.getElem?_toList]; exact hc
        rw [show (sgn z)[i]? = z.cps.toList[i]? from rfl, this] at hc2
        exact (Option.some.inj hc2).symm
      subst ec
      have sn := same_new (o := .tup [V.int (i : Nat), V.str ⟨#[c2]⟩]) (I2.same.free nT)
      exact ⟨_, sn, I2.fresh nT, .tup (.inl (.inl upd_same)) (.cons (.raw _) (.cons (.raw _) .nil))⟩
theorem count_sgn (z : Str) (c : Nat) : Txt.count z ⟨#[c]⟩ = ((sgn z).count c : Nat) := by
  rw [count_cnt]
  show cnt c (sgn z) = _
  generalize sgn z = l
  induction l with
  | nil => rfl
  | cons a r ih =>
    rw [cnt_cons, ih, List.count_cons]
    by_cases h : a = c
    · subst h
      simp
      omega
    · simp [h]
/-! ### x.count(y), sum(xs) -/
theorem er_count (h : Er K to Δ cs fun x cs1 => ∃ a, x = .str a ∧ Er K te Δ cs1 fun y cs2 => ∃ b, y = .str b ∧ R (.int (Txt.count a b)) cs2) : Er K (tM1 rCount to te) Δ cs R := fun σ G H Q E I q =>
  h σ G H _ E I fun v x cs1 G1 H1 e1 I1 r1 ⟨a, ex, h1⟩ => by
    subst ex
    have ev := r1.raw_inv
    subst ev
    refine ⟨⟨a, rfl⟩, h1 σ G1 H1 _ (E.mono e1) I1 fun w y cs2 G2 H2 e2 I2 r2 ⟨b, ey, h2⟩ => ?_⟩
    subst ey
    have ew := r2.raw_inv
    subst ew
    exact ⟨a, b, rfl, rfl, (q.mono (e1.trans e2)).now I2 (.raw _) h2⟩
theorem oa_sumI {ns : List Int} (h : R (.int ns.sum) cs) : Oa K (rSumI K) [.lst (ns.map D.int)] cs R := fun vs G H Q r I q => by
  obtain ⟨v, rfl, rv⟩ := reps1 r
  obtain ⟨p, ws, rfl, hp, rs⟩ := rv.lst_inv
  rw [map_int] at rs
  rw [Reps.raws rs] at hp
  exact ⟨p, ns, rfl, I.same.seq hp, q.now I (.raw _) h⟩
/-! ### ''.join of an owned list -/
theorem er_joinC (h : Er K to Δ cs fun x cs1 => ∃ a, x = .str a ∧ Er K te Δ cs1 fun y cs2 => ∃ (p : Addr) (k : Nat) (ys : List Str), y = .raw (.ref p) ∧ cs2[k]? = some (p, CO.lst (ys.map D.str)) ∧ (ys.map (·.length)).sum + ys.length * a.length ≤ 16777216 ∧ R (.str (Txt.join a ys)) cs2) : Er K (tM1 (rJoin K) to te) Δ cs R := fun σ G H Q E I q =>
  h σ G H _ E I fun v x cs1 G1 H1 e1 I1 r1 ⟨a, ex, h1⟩ => by
    subst ex
    have ev := r1.raw_inv
    subst ev
    refine ⟨⟨a, rfl⟩, h1 σ G1 H1 _ (E.mono e1) I1 fun w y cs2 G2 H2 e2 I2 r2 ⟨p, k, ys, ey, hk, hz, h2⟩ => ?_⟩
    subst ey
    have ew := r2.raw_inv
    subst ew
    obtain ⟨gn, vs, hp, rs⟩ := I2.lst hk
    have e : ys.map D.str = (ys.map V.str).map D.raw := by rw [List.map_map]; rfl
    rw [e] at rs
    have ev := Reps.raws rs
    subst ev
    exact ⟨a, p, ys, rfl, rfl, .inl (.inl (.inl hp)), hz, (q.mono (e1.trans e2)).now I2 (.raw _) h2⟩
/-! ### raise C(e) -/
theorem xs_raiseF {X : XA} {E : XK} {C : Addr} {f : Str} (hiv : ∀ G, A.iv G → XQ K G X E) (h : Er K te Δ cs fun d cs1 => X (.ref C) [(f, d)] cs1) : Xs K (tRaiseF C f (tCons te tNil) fun cls d _ H => E cls d H) A Δ cs := fun σ G H D Ev I q =>
  h σ G H _ Ev I fun v d cs1 G1 H1 e1 I1 r1 h1 => by
    refine ⟨by show 1 ≤ 1000; decide, fun a ha => ⟨a, v, rfl, upd_same, fun dx hdx hne => ⟨rfl, dx, [(f, v)], upd_same, ?_, ?_, ?_⟩⟩⟩
    · rw [upd_ne hne, upd_same]
    · rw [upd_ne hne] at hdx
      exact hdx
    · have hd1 : H1 dx = none := by
        rw [upd_ne hne] at hdx
        exact hdx
      have eH : upd (L2.del (upd (upd (upd H1 a (exo a C none)) dx (exd dx [(f, v)])) a (exo a C (some dx))) a) dx (HO.xd [(f, v)]) = upd H1 dx (.xd [(f, v)]) := by
        funext b
        by_cases hb : b = dx
        · rw [hb, upd_same, upd_same]
        · rw [upd_ne hb, upd_ne hb]
          by_cases hba : b = a
          · rw [hba, del_same, ha]
          · rw [del_ne hba, upd_ne hba, upd_ne hb, upd_ne hba]
      rw [eH]
      have n' := I1.same.free hd1
      refine hiv G (q.iv G (Same.refl G)) _ (some dx) [(f, d)] cs1 _ _ (e1.trans (same_new n')) (I1.fresh hd1) (.inr ⟨dx, [(f, v)], List.cons_ne_nil _ _, rfl, upd_same, rfl, .cons (r1.mono (same_new n')) .nil⟩) h1
/-! ### a caught exception: its class, its fields; try: with a call in it -/
theorem oa_isX {C D a dx : Addr} {ns : List Str} {b : Bool} (e : PySem.W.kitOne K (.ref D) (.ref C) = some b) (h : R (.bl b) cs) : Oa K (rIsE K D a) [.exc a dx ns ds, .raw (.ref C)] cs R := fun vs G H Q r I q => by
  obtain ⟨v, w, rfl, rv, rw'⟩ := reps2 r
  obtain ⟨fs, rfl, _, _, _⟩ := rv.exc_inv
  rw [rw'.raw_inv]
  exact oa_isE (cs := cs) (R := R) e h [V.ref a, V.ref C] G H Q (.cons (.raw _) (.cons (.raw _) .nil)) I q
theorem er_xf {a dx C : Addr} {f : Str} (h : Er K te Δ cs fun x cs1 => ∃ ns ds d, x = .exc a dx ns ds ∧ getN f ns ds = some d ∧ R d cs1) : Er K (tXf a (.ref C) (some dx) C f te) Δ cs R := fun σ G H Q E I q =>
  h σ G H _ E I fun v x cs1 G1 H1 e1 I1 r1 ⟨ns, ds, d, ex, hg, h1⟩ => by
    subst ex
    obtain ⟨fs, rfl, hp, en, rs⟩ := r1.exc_inv
    subst en
    obtain ⟨w, hl, rw'⟩ := getN_lookup rs hg
    exact ⟨rfl, rfl, dx, fs, w, rfl, I1.same _ _ hp, hl, (q.mono e1).now I1 rw' h1⟩
/-- the suite of an except behind an exception in data -/
def SuiteX (K : PySem.W.Frag) (A : AE) (i : Nat) (c : Value) (ts : Addr → Value → Option Addr → TS) (Δ : Env) (cls : Value) (pl : List (Str × D)) (cs : Cells) : Prop :=
  PySem.W.exmOne K cls c = some true ∧ ∀ a, (pl = [] → Xs K (ts a cls none) { A with nx := fun Δ' cs' => A.nx (Δ'.set i none) cs', bk := fun Δ' cs' => A.bk (Δ'.set i none) cs', ct := fun Δ' cs' => A.ct (Δ'.set i none) cs' } (Δ.set i (some (.raw (.ref a)))) cs) ∧
    (pl ≠ [] → ∀ dx, Xs K (ts a cls (some dx)) { A with nx := fun Δ' cs' => A.nx (Δ'.set i none) cs', bk := fun Δ' cs' => A.bk (Δ'.set i none) cs', ct := fun Δ' cs' => A.ct (Δ'.set i none) cs' } (Δ.set i (some (.exc a dx (pl.map (·.1)) (pl.map (·.2))))) cs)
theorem suiteX {i : Nat} {c : Value} {ts : Addr → Value → Option Addr → TS} {Dn : Ends} {Wo : WX} (Ev : RepE K G σ Δ) (q : DQ K G A Dn) : XQ K G (SuiteX K A i c ts Δ) (WE (wAs K c i ts Wo Dn) σ) := fun cls d pl cs' G' H' e I' x ⟨hx, hs⟩ => by
  refine ⟨true, hx, fun _ a na => ?_, fun z => absurd z.symm Bool.false_ne_true⟩
  have fin : DQ K G' { A with nx := fun Δ' cs' => A.nx (Δ'.set i none) cs', bk := fun Δ' cs' => A.bk (Δ'.set i none) cs', ct := fun Δ' cs' => A.ct (Δ'.set i none) cs' } { Dn with nx := fun σ' H' => Dn.nx (σ'.set i none) H', bk := fun σ' H' => Dn.bk (σ'.set i none) H', ct := fun σ' H' => Dn.ct (σ'.set i none) H' } := by
    refine ⟨?_, q.rt.mono e, ?_, ?_, fun G9 e9 => q.iv G9 (e.trans e9)⟩
    · intro σ' Δ' cs5 G5 H5 e5 E5 I5 n5
      exact q.nx _ _ cs5 G5 H5 (e.trans e5) (E5.none i) I5 n5
    · intro σ' Δ' cs5 G5 H5 e5 E5 I5 n5
      exact q.bk _ _ cs5 G5 H5 (e.trans e5) (E5.none i) I5 n5
    · intro σ' Δ' cs5 G5 H5 e5 E5 I5 n5
      exact q.ct _ _ cs5 G5 H5 (e.trans e5) (E5.none i) I5 n5
  rcases x with ⟨ed, ep⟩ | ⟨dx, fs, hne, ed, hg, en, rs⟩
  · subst ed
    exact (hs a).1 ep _ G' H' _ ((Ev.mono e).set (.raw _) i) I' fin
  · subst ed
    exact (hs a).2 hne dx _ G' H' _ ((Ev.mono e).set (.exc hg en rs) i) I' fin
/-- try: f(e, ..) -/
theorem xs_tryDrop {F : Tr} {i : Nat} {c : Value} {ts : Addr → Value → Option Addr → TS} {Wo : WX} {t : TA} (h : Ea K t Δ cs fun xs cs1 => F xs cs1 (fun _ cs' => A.nx Δ cs') (SuiteX K A i c ts Δ)) :
    Xs K (fun D σ H => tDrop (tCallS (spA K F) (WE (wAs K c i ts Wo D)) t) D σ H) A Δ cs := fun σ G H D Ev I q =>
  h σ G H _ Ev I fun vs xs cs1 G1 H1 e1 I1 r1 h1 => ⟨G1, cs1, xs, _, _, I1, r1, h1, fun v d cs' G' H' e I' r hd => q.nx σ Δ cs' G' H' (e1.trans e) (Ev.mono (e1.trans e)) I' hd, suiteX (Ev.mono e1) (q.mono e1)⟩
/-- try: x = f(e, ..) -/
theorem xs_tryAsg {F : Tr} {i j : Nat} {c : Value} {ts : Addr → Value → Option Addr → TS} {Wo : WX} {t : TA} (h : Ea K t Δ cs fun xs cs1 => F xs cs1 (fun d cs' => A.nx (Δ.set j (some d)) cs') (SuiteX K A i c ts Δ)) :
    Xs K (fun D σ H => tAsg (tCallS (spA K F) (WE (wAs K c i ts Wo D)) t) (gName j) D σ H) A Δ cs := fun σ G H D Ev I q =>
  h σ G H _ Ev I fun vs xs cs1 G1 H1 e1 I1 r1 h1 => ⟨G1, cs1, xs, _, _, I1, r1, h1, fun v d cs' G' H' e I' r hd => q.nx _ _ cs' G' H' (e1.trans e) ((Ev.mono (e1.trans e)).set r j) I' hd, suiteX (Ev.mono e1) (q.mono e1)⟩
end
end L3

/-! L3o -/
set_option maxHeartbeats 4000000
namespace L3
open PySem PySem.Spec PyProof.Rows L2
section
variable {X : Cx} {C fI : Addr} {f x : Str} {k : Nat} {fd : FuncData} {ps : List Str} {W : WX} {e : Expr} {ta : TA} {p pos pos2 : Pos}
/-! ### raise C(e) -/
theorem ps_raiseF (hc : X.calm = true) (tk : Takes X W) (T : OexC X.K C) (iC : PySem.W.findIn X.K (.ref C) "__init__" = some (some (.ref fI))) (tI : PySem.W.typeIn X.K (.ref fI) = some (.type "function"))
    (F1 : FnOk X.prog X.w X.K X.mg X.base CX0 k fI fd ps (spErr C f)) (hr : Room (k + 1) X.A) (hb : Binds X.K fd ps []) (hg : Gl X x) (hm : X.mg x = some (.ref C)) (ha : PA X [e] ta)
    (hdb : (x == ("__debug__" : Str)) = false := by decide) (he : starEach [e] X.env = (false, eval e X.env) :: starEach [] X.env := by rfl) (hpl : (backTo pos (starEach [] X.env)).any (·.1) = false := by rfl) :
    PS X (.Raise (some (.Call (.Name x p) [e] [] pos)) none pos2) (tRaiseF C f ta W) :=
  ps_raise hc tk (pmk_oex T iC tI F1 hr hb .nil pass0 hg hm ha hdb he hpl)
/-! ### isinstance(e, c), e a caught exception with fields -/
def rIsF (K : PySem.W.Frag) (D a : Addr) (d : Option Addr) : List V → Hp → VK → Prop := fun xs H Q => ∃ (c : V) (cv : Value) (b : Bool) (dd : Addr) (fs : List (Str × V)), xs = [.ref a, c] ∧ d = some dd ∧ H dd = some (.xd fs) ∧ (∀ u, RelV c u → u = cv) ∧ PySem.W.kitOne K (.ref D) cv = some b ∧ Q (.bl b) H
theorem call_isF {a D : Addr} {oe : Obj} {d : Option Addr} {pn : List (Addr × Obj)} (C : ExcC X.K D) (hz : Zc (.ref D) d oe) (hf : ∃ vs, oe.data = .fields vs) : CallR (X.suite a ((a, oe) :: pn)) (.builtin "isinstance") (rIsF X.K D a d) := by
  intro pins s σ H xs us Q I r h
  obtain ⟨c, cv, b, dd, fs, rfl, ed, ea, hcv, e, q⟩ := h
  subst ed
  cases r with
  | cons rx rr =>
    cases rr with
    | cons rt rr =>
      cases rr
      cases rx
      have ec := hcv _ rt
      subst ec
      obtain ⟨hget, _⟩ := I.pin (a, oe) (List.mem_append.mpr (.inl List.mem_cons_self))
      obtain ⟨vs, hv⟩ := hf
      have hx : ObjOk X.prog X.w H s.heap dd (.xd fs) := I.hok dd _ ea
      obtain ⟨mA, hns, hr⟩ := hx
      obtain ⟨od, ho, hl⟩ := lookIn_ns hns
      have J : PySem.W.InstAt s.heap a oe D (some od) := ⟨hget, hz.1, by unfold PySem.W.notCls; rw [hv] <;> rfl, by rw [hz.2]; exact ho⟩
      exact PySem.W.kia_one (PySem.W.kitx_exc (by obtain ⟨cd, hc, _⟩ := PySem.W.any_some C.hd; rw [hc]; rfl) C.hg C.hk C.hs C.ha C.hn C.ht C.hm) I.kIn J e (fun z => nomatch z) fun tk => ⟨.bl b, H, I.kept (t' := tk) fun _ _ z => z, rfl, q⟩
theorem call_isE2 {a D : Addr} {oe : Obj} {cls : Value} {d : Option Addr} {pn : List (Addr × Obj)} (C : ExcC X.K D) (hz : Zc cls d oe) (hp : cls = .ref D ∧ d = none) (hf : ∃ vs, oe.data = .fields vs) : CallR (X.suite a ((a, oe) :: pn)) (.builtin "isinstance") (rIsE X.K D a) := by
  obtain ⟨rfl, rfl⟩ := hp
  exact call_isE C hz hf
theorem call_isF2 {a D : Addr} {oe : Obj} {cls : Value} {d : Option Addr} {pn : List (Addr × Obj)} (C : ExcC X.K D) (hz : Zc cls d oe) (hp : cls = .ref D) (hf : ∃ vs, oe.data = .fields vs) : CallR (X.suite a ((a, oe) :: pn)) (.builtin "isinstance") (rIsF X.K D a d) := by
  subst hp
  exact call_isF C hz hf
end
section
variable {K : PySem.W.Frag} {cs : Cells} {R : RK} {C D a dx : Addr} {b : Bool} {ns : List Str} {ds : List L3.D}
theorem oa_isF (e : PySem.W.kitOne K (.ref D) (.ref C) = some b) (h : R (.bl b) cs) : Oa K (rIsF K D a (some dx)) [.exc a dx ns ds, .raw (.ref C)] cs R := fun vs G H Q r I q => by
  obtain ⟨v, w, rfl, rv, rw'⟩ := reps2 r
  obtain ⟨fs, rfl, hg, _, _⟩ := rv.exc_inv
  have ew := rw'.raw_inv
  subst ew
  exact ⟨.ref C, .ref C, b, dx, fs, rfl, rfl, I.same _ _ hg, fun u r => r, e, q.now I (.raw _) h⟩
end
end L3

/-! L3p -/
set_option maxHeartbeats 4000000
namespace L3
open PySem PySem.Spec PyProof.Rows L2
/-! ### lists and tuples of flat data, compared -/
def flatP : D → Bool
  | .raw .non => true
  | .raw (.bl _) => true
  | .raw (.int _) => true
  | .raw (.str s) => PyData.canLay0 (.str s)
  | _ => false
theorem ok_flat {d : D} (h : flatP d = true) : okD d = true := by
  match d, h with
  | .raw .non, _ => rfl
  | .raw (.bl _), _ => rfl
  | .raw (.int _), _ => rfl
  | .raw (.str _), _ => rfl
theorem okL_flat : ∀ {l : List D}, l.all flatP = true → okL l = true
  | [], _ => rfl
  | d :: r, h => by
    rw [List.all_cons, Bool.and_eq_true] at h
    show (okD d && okL r) = true
    rw [ok_flat h.1, okL_flat h.2]
    rfl
theorem lay_flat {d : D} (h : flatP d = true) : PyData.canLay0 (pdD d) = true ∧ PyData.depth (pdD d) = 0 := by
  match d, h with
  | .raw .non, _ => exact ⟨rfl, rfl⟩
  | .raw (.bl _), _ => exact ⟨rfl, rfl⟩
  | .raw (.int _), _ => exact ⟨rfl, rfl⟩
  | .raw (.str _), h => exact ⟨h, rfl⟩
theorem layL_flat : ∀ {l : List D}, l.all flatP = true → PyData.canLayAll0 (pdL l) = true ∧ PyData.depthAll (pdL l) = 0
  | [], _ => ⟨rfl, rfl⟩
  | d :: r, h => by
    rw [List.all_cons, Bool.and_eq_true] at h
    obtain ⟨a1, a2⟩ := lay_flat h.1
    obtain ⟨b1, b2⟩ := layL_flat h.2
    refine ⟨?_, ?_⟩
    · show (PyData.canLay0 (pdD d) && PyData.canLayAll0 (pdL r)) = true
      rw [a1, b1]
      rfl
    · show max (PyData.depth (pdD d)) (PyData.depthAll (pdL r)) = 0
      rw [a2, b2]
      rfl
theorem shaped_flatL {l : List D} (h : l.all flatP = true) : SeqAt.shaped (pdD (.lst l)) = true := by
  obtain ⟨h1, h2⟩ := layL_flat h
  unfold SeqAt.shaped
  show (PyData.canLayAll0 (pdL l) && decide (PyData.depthAll (pdL l) + 1 ≤ 64)) = true
  rw [h1, h2]
  rfl
theorem shaped_flatT {l : List D} (h : l.all flatP = true) : SeqAt.shaped (pdD (.tup l)) = true := by
  obtain ⟨h1, h2⟩ := layL_flat h
  unfold SeqAt.shaped
  show (PyData.canLayAll0 (pdL l) && decide (PyData.depthAll (pdL l) + 1 ≤ 64)) = true
  rw [h1, h2]
  rfl
theorem lay_str {s : Str} (h : ∀ c ∈ sgn s, c < 0x110000) : PyData.canLay0 (.str s) = true := by
  show s.cps.all (· < 0x110000) = true
  rw [← Array.all_toList]
  exact List.all_eq_true.mpr fun c hc => decide_eq_true (h c hc)
theorem str_lay {s : Str} (h : PyData.canLay0 (.str s) = true) : ∀ c ∈ sgn s, c < 0x110000 := fun c hc => by
  have h2 : s.cps.all (· < 0x110000) = true := h
  rw [← Array.all_toList] at h2
  exact of_decide_eq_true (List.all_eq_true.mp h2 c hc)
theorem flat_strs {l : List Str} (h : ∀ s ∈ l, PyData.canLay0 (.str s) = true) : (l.map D.str).all flatP = true := List.all_eq_true.mpr fun d hd => by
  obtain ⟨s, hs, rfl⟩ := List.mem_map.mp hd
  exact h s hs
theorem flat_ints (l : List Int) : (l.map D.int).all flatP = true := List.all_eq_true.mpr fun d hd => by
  obtain ⟨s, _, rfl⟩ := List.mem_map.mp hd
  rfl
section
variable {K : PySem.W.Frag} {cs : Cells} {R : RK} {l m : List D} {c : Nat} {z : Str}
/-- xs == [] -/
theorem o2_eqNil (h : l.all flatP = true) (k : R (.bl l.isEmpty) cs) : O2 K (rEqD K) (.lst l) (.lst []) cs R := by
  refine o2_eqD (okL_flat h) rfl (shaped_flatL h) (shaped_flatL (l := []) rfl) ?_
  cases l with
  | nil => exact k
  | cons a r => exact k
theorem o2_neNil (h : l.all flatP = true) (k : R (.bl (!l.isEmpty)) cs) : O2 K (rNeD K) (.lst l) (.lst []) cs R := by
  refine o2_neD (okL_flat h) rfl (shaped_flatL h) (shaped_flatL (l := []) rfl) ?_
  cases l with
  | nil => exact k
  | cons a r => exact k
/-- c in s, c not in s, c one sign -/
theorem o2_inSign (h : R (.bl (decide (c ∈ sgn z))) cs) : O2 K (fun x y H Q => ∃ (c : Nat) (z : Str), x = .str ⟨#[c]⟩ ∧ y = .str z ∧ Q (.bl (decide (c ∈ z.cps.toList))) H) (.str ⟨#[c]⟩) (.str z) cs R := fun v w G H Q rv rw' I q =>
  ⟨c, z, rv.raw_inv, rw'.raw_inv, q.now I (.raw _) h⟩
theorem o2_notInSign (h : R (.bl (!decide (c ∈ sgn z))) cs) : O2 K (fun x y H Q => ∃ (c : Nat) (z : Str), x = .str ⟨#[c]⟩ ∧ y = .str z ∧ Q (.bl (!decide (c ∈ z.cps.toList))) H) (.str ⟨#[c]⟩) (.str z) cs R := fun v w G H Q rv rw' I q =>
  ⟨c, z, rv.raw_inv, rw'.raw_inv, q.now I (.raw _) h⟩
end
end L3

/-! L3q -/
set_option maxHeartbeats 4000000
namespace L3
open PySem PySem.Spec PyProof.Rows L2
def rListOf (K : PySem.W.Frag) : List V → Hp → VK → Prop := fun xs H Q => ∃ p ys, xs = [.ref p] ∧ (SqL K H p ys ∨ SqT K H p ys) ∧ ∀ l, H l = none → Q (.ref l) (upd H l (.lst ys))
theorem kcall_list {X : Cx} {K : PySem.W.Frag} (hK : X.K = K) : CallR X (.type "list") (rListOf K) := by subst hK; exact call_list_of
section
variable {K : PySem.W.Frag} {G G' H H' : Hp} {σ : L2.St} {Δ : Env} {cs : Cells} {R : RK} {ta tb tc te to : TE} {d x y : D} {ds es : List D} {A : AE} {t : TA} {u : TS}
/-! ### list(xs), owned or not -/
theorem oa_listC (h : ∀ p, R (.raw (.ref p)) (cs ++ [(p, .lst ds)])) : Oa K (rListOf K) [.lst ds] cs R := fun vs G H Q r I q => by
  obtain ⟨v, rfl, rv⟩ := reps1 r
  obtain ⟨p, ws, rfl, hp, rs⟩ := rv.lst_inv
  exact ⟨p, ws, rfl, .inl (I.same.seq hp), fun l n => q _ _ _ _ _ (Same.refl G) (I.snoc (co := .lst ds) n ⟨I.same.free n, ws, upd_same, rs⟩) (.raw _) (h l)⟩
theorem oa_listL (h : R (.lst ds) cs) : Oa K (rListOf K) [.lst ds] cs R := fun vs G H Q r I q => by
  obtain ⟨v, rfl, rv⟩ := reps1 r
  obtain ⟨p, ws, rfl, hp, rs⟩ := rv.lst_inv
  refine ⟨p, ws, rfl, .inl (I.same.seq hp), fun l n => ?_⟩
  have n' := I.same.free n
  exact q (.ref l) _ cs _ _ (same_new n') (I.fresh n) (.lst upd_same (rs.mono (same_new n'))) h
/-! ### xs.pop(i), xs.pop() of an owned list -/
theorem er_popAt (h : Er K to Δ cs fun x cs1 => ∃ (p : Addr) (k : Nat) (ds : List D), x = .raw (.ref p) ∧ cs1[k]? = some (p, CO.lst ds) ∧
    Er K te Δ cs1 fun y cs2 => ∃ (i : Nat) (ds2 : List D) (d : D), y = .int i ∧ cs2[k]? = some (p, CO.lst ds2) ∧ ds2[i]? = some d ∧ ds2.length < 2 ^ 62 ∧ R d (cs2.set k (p, .lst (ds2.eraseIdx i)))) : Er K (tBM K "list" rPopAt to (tCons te tNil)) Δ cs R := fun σ G H Q E I q =>
  h σ G H _ E I fun v x cs1 G1 H1 e1 I1 r1 ⟨p, k, ds, ex, hc, h1⟩ => by
    subst ex
    have ev := r1.raw_inv
    subst ev
    obtain ⟨_, vs, hp, rs⟩ := I1.lst hc
    refine ⟨.inl ⟨rfl, vs, .inl (.inl hp)⟩, h1 σ G1 H1 _ (E.mono e1) I1 fun w y cs2 G2 H2 e2 I2 r2 ⟨i, ds2, d, ey, hc2, hd, hl, h2⟩ => ?_⟩
    subst ey
    have ew := r2.raw_inv
    subst ew
    obtain ⟨gn, vs2, hp2, rs2⟩ := I2.lst hc2
    obtain ⟨z, hz, rz⟩ := rs2.get hd
    have hi : i < vs2.length := (List.getElem?_eq_some_iff.mp hz).1
    have hl2 : vs2.length < 2 ^ 62 := by rw [rs2.length]; exact hl
    have e62 : (2 : Nat) ^ 62 = 4611686018427387904 := by decide
    rw [e62] at hl2
    refine ⟨p, vs2, (i : Int), i, z, rfl, rfl, hp2, by omega, by omega, ?_, hz, ?_⟩
    · have := seqIndex_of (k := (i : Int)) (n := vs2.length) (by omega) (by omega)
      rw [this]
      rfl
    · exact q z d _ G2 _ (e1.trans e2) (I2.put (co' := .lst (ds2.eraseIdx i)) hc2 gn ⟨gn, _, upd_same, rs2.eraseIdx i⟩) rz h2
theorem er_pop (h : Er K to Δ cs fun x cs1 => ∃ (p : Addr) (k : Nat) (ds : List D) (d : D), x = .raw (.ref p) ∧ cs1[k]? = some (p, CO.lst (ds ++ [d])) ∧ R d (cs1.set k (p, .lst ds))) : Er K (tBM0 K "list" rPop to) Δ cs R := fun σ G H Q E I q =>
  h σ G H _ E I fun v x cs1 G1 H1 e1 I1 r1 ⟨p, k, ds, d, ex, hc, h1⟩ => by
    subst ex
    have ev := r1.raw_inv
    subst ev
    obtain ⟨gn, vs, hp, rs⟩ := I1.lst hc
    have hl := rs.length
    rw [List.length_append] at hl
    have hl1 : [d].length = 1 := rfl
    obtain ⟨z, hz, rz⟩ := rs.get (i := vs.length - 1) (d := d) (by rw [hl, hl1, List.getElem?_append_right (by omega)]; simp)
    have et : vs.dropLast = vs.take ds.length := by
      rw [List.dropLast_eq_take, hl, hl1]
      rfl
    refine ⟨.inl ⟨rfl, vs, .inl (.inl hp)⟩, p, vs, z, rfl, rfl, hp, hz, ?_⟩
    refine q z d _ G1 _ e1 (I1.put (co' := .lst ds) hc gn ⟨gn, vs.dropLast, upd_same, ?_⟩) rz h1
    rw [et]
    have := rs.take ds.length
    rw [List.take_left'] at this
    · exact this
    · rfl
/-! ### one datum compared with itself -/
theorem eqv_self {d : D} (h : SeqAt.shaped (pdD d) = true) : PyData.eqv (pdD d) (pdD d) = true := by
  unfold SeqAt.shaped at h
  rw [Bool.and_eq_true] at h
  exact PySem.SeqAt.eqv_refl _ h.1
theorem o2_neSelf (hx : okD x = true) (sx : SeqAt.shaped (pdD x) = true) (h : R (.bl false) cs) : O2 K (rNeD K) x x cs R := o2_neD hx hx sx sx (by rw [eqv_self sx]; exact h)
theorem o2_eqSelf (hx : okD x = true) (sx : SeqAt.shaped (pdD x) = true) (h : R (.bl true) cs) : O2 K (rEqD K) x x cs R := o2_eqD hx hx sx sx (by rw [eqv_self sx]; exact h)
end
end L3

/-! L3r -/
set_option maxHeartbeats 4000000
namespace L3
open PySem PySem.Spec PyProof.Rows L2
section
variable {X : Cx} {CX : CXT} {k : Nat} {f C : Addr} {fd : FuncData} {ps : List Str} {sp : Sp} {dvs : List V} {ds : List Value} {E : L2.St → XK} {x : Str} {p pos : Pos} {e : Expr} {es : List Expr} {t : TA}
/-! ### C(e, ..) in a try's body -/
def tMakeW (C : Addr) (sp : Sp) (dvs : List V) (E : L2.St → XK) (t : TA) : TE := fun σ H Q => t σ H fun vs H1 => ∀ x dx, H1 x = none → H1 dx = none → dx ≠ x →
  sp (.ref x :: (vs ++ dvs)) (upd (upd H1 dx (.own x)) x (.ins C dx [])) (fun v H2 => v = .non ∧ Q (.ref x) H2) (E σ)
theorem run_makeS {pins : List (Addr × Obj)} {σ : L2.St} {H : Hp} {s : Shared} {Q : VK} {us : List Value} {vs : List V} {E : XK} (M : Mk X.K C f) (F : FnOk X.prog X.w X.K X.mg X.base CX k f fd ps sp) (hr : Room (k + 1) X.A) (hb : Binds X.K fd ps ds) (hd : Vals dvs ds)
    (hx : PassesAt CX X σ E) (I : Inv X pins σ H s) (r : Vals vs us)
    (h : ∀ x dx, H x = none → H dx = none → dx ≠ x → sp (.ref x :: (vs ++ dvs)) (upd (upd H dx (.own x)) x (.ins C dx [])) (fun v H2 => v = .non ∧ Q (.ref x) H2) E) :
    wpAny (model X.prog X.w) X.A (call (.ref C) us) (EP X pins σ Q) X.xe s := by
  have hq := h (s.heap.objs.size + 1) s.heap.objs.size (I.hok.fresh (Nat.le_succ _)) (I.hok.fresh (Nat.le_refl _)) (Nat.ne_of_lt (Nat.lt_succ_self _))
  have I2 := Inv.made (C := C) I
  have r2 : Vals (V.ref (s.heap.objs.size + 1) :: (vs ++ dvs)) (Value.ref (s.heap.objs.size + 1) :: (us ++ ds)) := .cons rfl (r.append hd)
  have hl : (Value.ref (s.heap.objs.size + 1) :: us ++ ds).length = ps.length := by
    have e := r2.length
    rw [F.len _ _ _ _ hq] at e
    exact e.symm
  refine wpAny_call (make_map (f := f) I.kIn M.makes M.init (beq_iff_eq.mp M.fn) (codeAny_mono (F.run _ X.stack _ _ ⟨Value.ref (s.heap.objs.size + 1) :: us, []⟩ (Value.ref (s.heap.objs.size + 1) :: (us ++ ds)) _ _ E (hr.make C us [])
    (I2.env0.make C us []) (hb _ (Value.ref (s.heap.objs.size + 1) :: us) I2.kIn hl) r2 hq) fun r s' hq' => ?_))
  cases r with
  | error e => exact hx pins _ _ e s' I2 hq'
  | ok fl =>
    cases fl with
    | ret u =>
      obtain ⟨v, H', I3, rv, ev, q3⟩ := I2.after hq'
      subst ev
      exact ⟨rv, ⟨V.ref (s.heap.objs.size + 1), H', I3, rfl, q3⟩⟩
    | next => exact False.elim hq'
    | brk => exact False.elim hq'
    | cont => exact False.elim hq'
theorem pe_makeW (M : Mk X.K C f) (F : FnOk X.prog X.w X.K X.mg X.base CX k f fd ps sp) (hr : Room (k + 1) X.A) (hg : Gl X x) (hm : X.mg x = some (.ref C)) (hb : Binds X.K fd ps ds) (hd : Vals dvs ds) (hx : ∀ σ, PassesAt CX X σ (E σ))
    (ha : PA X (e :: es) t) (hdb : (x == ("__debug__" : Str)) = false := by decide) (he : starEach (e :: es) X.env = (false, eval e X.env) :: starEach es X.env := by rfl) (hpl : (backTo pos (starEach es X.env)).any (·.1) = false := by rfl) :
    PE X (.Call (.Name x p) (e :: es) [] pos) (tMakeW C sp dvs E t) := by
  refine ⟨fun pins s σ H Q I h => ?_⟩
  refine wpAny_Call_Name_kw (ld_glob I hg hm ?_ hdb)
  refine PySem.W.callWith_K (h₀ := X.base) I.ok.mod.kin M.kp (thn (ha.run pos pins s σ H _ I h) fun us s1 ⟨vs, H1, I1, r, q⟩ => ⟨I1.kIn, ?_⟩) he hpl
  exact run_makeS M F hr hb hd (hx σ) I1 r q
end
section
variable {K : PySem.W.Frag} {G G' H H' : Hp} {σ : L2.St} {Δ : Env} {cs : Cells} {R : RK} {ta tb tc te to : TE} {d x y : D} {ds es : List D} {A : AE} {t : TA} {u : TS}
/-- try: C(e, ..) -/
theorem xs_tryMake {F : Tr} {C : Addr} {dvs : List V} {i : Nat} {c : Value} {ts : Addr → Value → Option Addr → TS} {Wo : WX} {t : TA} (h : Ea K t Δ cs fun xs cs1 => ∀ p, F (.raw (.ref p) :: (xs ++ dvs.map D.raw)) (cs1 ++ [(p, .ins C [] [])]) (fun d cs2 => d = .non ∧ A.nx Δ cs2) (SuiteX K A i c ts Δ)) :
    Xs K (fun D σ H => tDrop (tMakeW C (spA K F) dvs (WE (wAs K c i ts Wo D)) t) D σ H) A Δ cs := fun σ G H D Ev I q =>
  h σ G H _ Ev I fun vs xs cs1 G1 H1 e1 I1 r1 h1 => fun p dx np ndx ne => by
    have I2 : Own K G1 (upd H1 dx (.own p)) cs1 := I1.grown (same_new ndx)
    have np2 : upd H1 dx (.own p) p = none := by rw [upd_ne (Ne.symm ne)]; exact np
    have I3 := I2.snoc (p := p) (o := .ins C dx []) (co := .ins C [] []) np2 ⟨I1.same.free np, dx, [], upd_same, rfl, .nil⟩
    refine ⟨G1, _, _, _, _, I3, .cons (.raw _) (r1.append (Reps.of_raws dvs)), h1 p, fun v d cs2 G2 H2 e2 I4 r4 ⟨ed, h4⟩ => ?_, suiteX (Ev.mono e1) (q.mono e1)⟩
    subst ed
    exact ⟨r4.raw_inv, q.nx σ Δ cs2 G2 H2 (e1.trans e2) (Ev.mono (e1.trans e2)) I4 h4⟩
/-- raise C(e); cells behind the n-th are let go -/
theorem xs_raiseFd {X : XA} {E : XK} {C : Addr} {f : Str} (hiv : ∀ G, A.iv G → XQ K G X E) (h : Er K te Δ cs fun d cs1 => ∃ n, X (.ref C) [(f, d)] (cs1.take n)) : Xs K (tRaiseF C f (tCons te tNil) fun cls d _ H => E cls d H) A Δ cs :=
  xs_raiseF (X := fun cls pl cs' => ∃ n, X cls pl (cs'.take n)) (fun G hG cls d pl cs' G' H' e I x ⟨n, h⟩ => hiv G hG cls d pl (cs'.take n) G' H' e (I.take n) x h) h
/-! ### parts of a list, their shape -/
theorem okL_filter {f : D → Bool} : ∀ {l : List D}, okL l = true → okL (l.filter f) = true
  | [], _ => rfl
  | d :: r, h => by
    have h2 : (okD d && okL r) = true := h
    rw [Bool.and_eq_true] at h2
    rw [List.filter_cons]
    split
    · show (okD d && okL (r.filter f)) = true
      rw [h2.1, okL_filter h2.2]
      rfl
    · exact okL_filter h2.2
theorem lay_filter {f : D → Bool} : ∀ {l : List D}, PyData.canLayAll0 (pdL l) = true → PyData.canLayAll0 (pdL (l.filter f)) = true ∧ PyData.depthAll (pdL (l.filter f)) ≤ PyData.depthAll (pdL l)
  | [], _ => ⟨rfl, Nat.le_refl _⟩
  | d :: r, h => by
    have h2 : (PyData.canLay0 (pdD d) && PyData.canLayAll0 (pdL r)) = true := h
    rw [Bool.and_eq_true] at h2
    obtain ⟨a, b⟩ := lay_filter (f := f) h2.2
    have e : PyData.depthAll (pdL (d :: r)) = max (PyData.depth (pdD d)) (PyData.depthAll (pdL r)) := rfl
    rw [List.filter_cons]
    split
    · refine ⟨?_, ?_⟩
      · show (PyData.canLay0 (pdD d) && PyData.canLayAll0 (pdL (r.filter f))) = true
        rw [h2.1, a]
        rfl
      · show max (PyData.depth (pdD d)) (PyData.depthAll (pdL (r.filter f))) ≤ _
        rw [e]
        omega
    · refine ⟨a, ?_⟩
      rw [e]
      omega
theorem shaped_filter {f : D → Bool} {l : List D} (h : SeqAt.shaped (pdD (.lst l)) = true) : SeqAt.shaped (pdD (.lst (l.filter f))) = true := by
  unfold SeqAt.shaped at h ⊢
  have h2 : (PyData.canLayAll0 (pdL l) && decide (PyData.depthAll (pdL l) + 1 ≤ 64)) = true := h
  rw [Bool.and_eq_true] at h2
  obtain ⟨a, b⟩ := lay_filter (f := f) h2.1
  show (PyData.canLayAll0 (pdL (l.filter f)) && decide (PyData.depthAll (pdL (l.filter f)) + 1 ≤ 64)) = true
  have h3 := of_decide_eq_true h2.2
  rw [a, decide_eq_true (by omega)]
  rfl
theorem eqvAll_nil : ∀ (l : List D), PyData.eqvAll (pdL l) [] = l.isEmpty
  | [] => rfl
  | _ :: _ => rfl
end
end L3

/-! L3s -/
set_option maxHeartbeats 4000000
namespace L3
open PySem PySem.Spec PyProof.Rows L2
def rReprS : List V → Hp → VK → Prop := fun xs H Q => ∃ z, xs = [.str z] ∧ (reprText z).length ≤ sizeLine ∧ Q (.str (reprText z)) H
theorem call_reprS {X : Cx} : CallR X (.builtin "repr") rReprS := by
  intro pins s σ H xs us Q I r h
  obtain ⟨z, rfl, hz, q⟩ := h
  obtain ⟨u, rfl, t, rfl⟩ := vals1 r
  exact PySem.P.repr_of_str ⟨.str _, H, I.tok _, ⟨_, rfl⟩, q⟩ hz
section
variable {K : PySem.W.Frag} {G G' H H' : Hp} {σ : L2.St} {Δ : Env} {cs : Cells} {R : RK} {ta tb tc te to : TE} {d x y : D} {ds es : List D} {A : AE} {t : TA} {u : TS} {z : Str} {p : Addr} {k : Nat}
theorem oa_reprS (hl : z.length ≤ 1000) (hc : ∀ c ∈ sgn z, c < 16 ^ 8) (h : R (.str (reprText z)) cs) : Oa K rReprS [.str z] cs R := oa_V1 (fun H Q q => ⟨z, rfl, by
  have := StrLaws.reprText_len z hc
  have : (10 * 1000 + 2 : Nat) ≤ sizeLine := by decide
  omega, q⟩) h
/-! ### while -/
theorem xs_while {c : TT} {t : TS} (Pv : Nat → Env → Cells → Prop) (h0 : ∃ m, Pv m Δ cs)
    (hs : ∀ m Δ cs, Pv m Δ cs → Et K c Δ cs fun b cs1 => (b = true → Xs K t { A with nx := fun Δ' cs' => ∃ m', m' < m ∧ Pv m' Δ' cs', ct := fun Δ' cs' => ∃ m', m' < m ∧ Pv m' Δ' cs', bk := A.nx } Δ cs1) ∧ (b = false → A.nx Δ cs1)) : Xs K (tWhile c t) A Δ cs := fun σ G H D E I q => by
  obtain ⟨m0, p0⟩ := h0
  refine ⟨fun m σ' H' => ∃ Δ' cs' G', Same G G' ∧ RepE K G' σ' Δ' ∧ Own K G' H' cs' ∧ Pv m Δ' cs', ⟨m0, Δ, cs, G, Same.refl G, E, I, p0⟩, ?_⟩
  rintro m σ' H' ⟨Δ', cs', G', e', E', I', p'⟩
  refine hs m Δ' cs' p' σ' G' H' _ E' I' fun b cs1 G1 H1 e1 I1 h1 => ?_
  cases b with
  | true =>
    rw [if_pos rfl]
    refine ⟨fun σ2 H2 => ∃ m', m' < m ∧ ∃ Δ2 cs2 G2, Same G G2 ∧ RepE K G2 σ2 Δ2 ∧ Own K G2 H2 cs2 ∧ Pv m' Δ2 cs2, fun σ2 H2 ⟨m', hm, w⟩ => ⟨m', hm, w⟩, ?_⟩
    have e01 := e'.trans e1
    exact h1.1 rfl σ' G1 H1 _ (E'.mono e1) I1 ⟨fun σ5 Δ5 cs5 G5 H5 e5 E5 I5 ⟨m', hm, h5⟩ => ⟨m', hm, Δ5, cs5, G5, e01.trans e5, E5, I5, h5⟩, q.rt.mono e01, q.nx.mono e01, fun σ5 Δ5 cs5 G5 H5 e5 E5 I5 ⟨m', hm, h5⟩ => ⟨m', hm, Δ5, cs5, G5, e01.trans e5, E5, I5, h5⟩, fun G9 e9 => q.iv G9 (e01.trans e9)⟩
  | false =>
    rw [if_neg Bool.false_ne_true]
    exact q.nx σ' Δ' cs1 G1 H1 (e'.trans e1) (E'.mono e1) I1 (h1.2 rfl)
/-! ### a slice of the script, a list turned about and owned -/
theorem er_slR {lo hi : L2.TO} (h : Er K te Δ cs fun d cs1 => ∃ ds, d = .ro ds ∧ Eo K lo Δ cs1 fun l cs2 => Eo K hi Δ cs2 fun u cs3 => R (.lst (cutD ds l u)) cs3) : Er K (tSl (rSlL K) te lo hi) Δ cs R := fun σ G H Q E I q =>
  h σ G H _ E I fun v d cs1 G1 H1 e1 I1 r1 ⟨ds, ed, h1⟩ => by
    subst ed
    refine h1 σ G1 H1 _ (E.mono e1) I1 fun l cs2 G2 H2 e2 I2 h2 => h2 σ G2 H2 _ ((E.mono e1).mono e2) I2 fun u cs3 G3 H3 e3 I3 h3 => ?_
    obtain ⟨p, vs, rfl, hp, rs⟩ := ((r1.mono e2).mono e3).ro_inv
    refine ⟨p, vs, rfl, I3.same.seq hp, fun w n => ?_⟩
    have n' := I3.same.free n
    exact q (.ref w) _ cs3 _ _ (((e1.trans e2).trans e3).trans (same_new n')) (I3.fresh n) (.lst upd_same ((rs.cut l u).mono (same_new n'))) h3
theorem er_revC (h : Er K te Δ cs fun d cs1 => ∃ ds, d = .lst ds ∧ ∀ p, R (.raw (.ref p)) (cs1 ++ [(p, .lst ds.reverse)])) : Er K (tRevL K te) Δ cs R := fun σ G H Q E I q =>
  h σ G H _ E I fun v d cs1 G1 H1 e1 I1 r1 ⟨ds, ed, h1⟩ => by
    subst ed
    obtain ⟨p, vs, rfl, hp, rs⟩ := r1.lst_inv
    refine ⟨p, vs, rfl, I1.same.seq hp, fun q1 n => ?_⟩
    exact q (.ref q1) _ _ _ _ e1 (I1.snoc (co := .lst ds.reverse) n ⟨I1.same.free n, vs.reverse, upd_same, rs.reverse⟩) (.raw _) (h1 q1)
/-! ### an owned list against [] -/
theorem o2_neC (hc : cs[k]? = some (p, CO.lst ds)) (hf : ds.all flatP = true) (h : R (.bl (!ds.isEmpty)) cs) : O2 K (rNeD K) (.raw (.ref p)) (.lst []) cs R := fun v w G H Q rv rw' I q => by
  obtain ⟨gn, vs, hp, rs⟩ := I.lst hc
  have ev := rv.raw_inv
  subst ev
  refine ⟨.list (pdL ds), .list [], .lst (.inl (.inl hp)) (dpL_of I.same rs (okL_flat hf)), dp_of I.same rw' rfl, shaped_flatL hf, shaped_flatL (l := []) rfl, q.now I (.raw _) ?_⟩
  cases ds with
  | nil => exact h
  | cons a r => exact h
/-! ### bits -/
theorem o2_and1 {i : Int} (h : R (.int (i % 2)) cs) : O2 K (fun x y H Q => ∃ (i : Int) (k : Nat), x = .int i ∧ y = .int (2 ^ k - 1) ∧ Q (.int (i % 2 ^ k)) H) (.int i) (.int 1) cs R := fun v w G H Q rv rw' I q =>
  ⟨i, 1, rv.raw_inv, rw'.raw_inv, q.now I (.raw _) h⟩
theorem er_bits (h : Er K to Δ cs fun x cs1 => ∃ i, x = .int i ∧ R (.int (Builtin.Int.intBits i : Nat)) cs1) : Er K (tBits to) Δ cs R := fun σ G H Q E I q =>
  h σ G H _ E I fun v x cs1 G1 H1 e1 I1 r1 ⟨i, ex, h1⟩ => by
    subst ex
    exact ⟨i, r1.raw_inv, (q.mono e1).now I1 (.raw _) h1⟩
end
end L3

/-! L3t -/
set_option maxHeartbeats 4000000
namespace L3
open PySem PySem.Spec PyProof.Rows L2
section
variable {K : PySem.W.Frag} {G G' H H' : Hp} {σ : L2.St} {Δ : Env} {cs : Cells} {R : RK} {ta tb tc te to : TE} {d x y : D} {ds es : List D} {A : AE} {t : TA}
/-! ### [e for x in xs for e in ys], no cell touched -/
theorem er_lc2C {wi wi1 : TI} {g g1 : TG} {vs vs1 : List Nat} {R : RK} (js : D → List D) (hw : TgtIn g vs) (hw1 : TgtIn g1 vs1) (h : Ei K wi Δ cs fun ds cs1 => (ds.flatMap js).length ≤ 100000 ∧
    (∀ (i : Nat) (d : D) (acc : List D) (p : Addr), ds[i]? = some d → Gg K g d (wipeE Δ vs) (cs1 ++ [(p, .lst acc)]) fun Δ' cs3 => Ei K wi1 Δ' cs3 fun es cs4 => es = js d ∧ cs4 = cs1 ++ [(p, .lst acc)] ∧
      ∀ (j : Nat) (e : D) (acc' : List D), es[j]? = some e → Gg K g1 e (wipeE Δ' vs1) (cs1 ++ [(p, .lst acc')]) fun Δ2 cs5 => Er K te Δ2 cs5 fun y cs6 => y = e ∧ cs6 = cs1 ++ [(p, .lst acc')]) ∧
    ∀ p, R (.raw (.ref p)) (cs1 ++ [(p, .lst (ds.flatMap js))])) : Er K (tLc2 wi g tYes wi1 g1 tYes te vs vs1) Δ cs R := fun σ G H Q E I q =>
  h σ G H _ E I fun J ds cs1 G1 H1 e1 I1 w ⟨hlen, hs, hR⟩ => fun Dl hD => by
    have st : ∀ {acc : List D}, (cs1 ++ [(Dl, CO.lst acc)])[cs1.length]? = some (Dl, .lst acc) := by simp
    refine ⟨fun i m H' => m = ds.length - i ∧ i ≤ ds.length ∧ ∃ G', Same G1 G' ∧ Own K G' H' (cs1 ++ [(Dl, .lst ((ds.take i).flatMap js))]), ⟨ds.length, by omega, Nat.zero_le _, G1, Same.refl G1, I1.snoc (co := .lst []) hD ⟨I1.same.free hD, [], upd_same, .nil⟩⟩, ?_⟩
    rintro i m H' ⟨rfl, hi, G', e', I'⟩
    by_cases hlt : i < ds.length
    · refine .inr ⟨w.goes i H' hlt (e'.trans I'.same), fun H2 => ∃ G', Same G1 G' ∧ Own K G' H2 (cs1 ++ [(Dl, .lst ((ds.take (i + 1)).flatMap js))]), fun H2 n => ⟨ds.length - (i + 1), by omega, rfl, hlt, n⟩, fun x H2 y => ?_⟩
      obtain ⟨G3, e3, I3, r3⟩ := w.yields i H' x H2 G' _ _ (List.getElem?_eq_getElem hlt) e' I' y
      have etake : (ds.take (i + 1)).flatMap js = (ds.take i).flatMap js ++ js ds[i] := by
        rw [List.take_add_one, List.getElem?_eq_getElem hlt, List.flatMap_append]
        simp
      have hle : ((ds.take i).flatMap js ++ js ds[i]).length ≤ 100000 := by
        rw [← etake]
        refine Nat.le_trans ?_ hlen
        have e0 : ds.flatMap js = (ds.take (i + 1)).flatMap js ++ (ds.drop (i + 1)).flatMap js := by rw [← List.flatMap_append, List.take_append_drop]
        rw [e0, List.length_append]
        omega
      refine hw x (L2.wipe σ vs) (L2.wipe σ vs) H2 _ _ (wipe_wipe σ) (fun σ4 H4 ew q4 => ⟨ew, q4⟩) ?_
      refine hs i _ _ Dl (List.getElem?_eq_getElem hlt) x (L2.wipe σ vs) G3 H2 _ ((E.mono (e1.trans (e'.trans e3))).wipe) I3 r3 fun σ4 Δ4 cs4 G4 H4 e4 E4 I4 h4 => ?_
      show wi1 σ4 H4 _
      refine h4 σ4 G4 H4 _ E4 I4 fun J1 es cs5 G5 H5 e5 I5 w1 ⟨ees, ec5, hin⟩ => ?_
      subst ec5
      rw [← ees] at hle etake
      refine ⟨fun j k H' => k = es.length - j ∧ j ≤ es.length ∧ ∃ G', Same G5 G' ∧ Own K G' H' (cs1 ++ [(Dl, .lst ((ds.take i).flatMap js ++ es.take j))]), ⟨es.length, by omega, Nat.zero_le _, G5, Same.refl G5, by rw [List.take_zero, List.append_nil]; exact I5⟩, ?_⟩
      rintro j k H6 ⟨rfl, hj, G6, e6, I6⟩
      by_cases hjl : j < es.length
      · refine .inr ⟨w1.goes j H6 hjl (e6.trans I6.same), fun H7 => ∃ G', Same G5 G' ∧ Own K G' H7 (cs1 ++ [(Dl, .lst ((ds.take i).flatMap js ++ es.take (j + 1)))]), fun H7 n => ⟨es.length - (j + 1), by omega, rfl, hjl, n⟩, fun x1 H7 y1 => ?_⟩
        obtain ⟨G7, e7, I7, r7⟩ := w1.yields j H6 x1 H7 G6 _ _ (List.getElem?_eq_getElem hjl) e6 I6 y1
        refine hw1 x1 (L2.wipe σ4 vs1) (L2.wipe σ4 vs1) H7 _ _ (wipe_wipe σ4) (fun σ5 H8 ew q5 => ⟨ew, q5⟩) ?_
        refine hin j _ _ (List.getElem?_eq_getElem hjl) x1 (L2.wipe σ4 vs1) G7 H7 _ ((E4.mono (e5.trans (e6.trans e7))).wipe) I7 r7 fun σ5 Δ5 cs8 G8 H8 e8 E8 I8 h8 => ?_
        show te σ5 H8 _
        refine h8 σ5 G8 H8 _ E8 I8 fun y d6 cs9 G9 H9 e9 I9 r9 ⟨ey, ec9⟩ => ?_
        subst ey ec9
        obtain ⟨gn, vs6, h9, r10⟩ := I9.lst st
        refine ⟨vs6, h9, ?_, G9, (e6.trans e7).trans (e8.trans e9), ?_⟩
        · rw [r10.length, List.length_append, List.length_take]
          rw [List.length_append] at hle
          have : (100000 : Nat) < sizeLine := by decide
          omega
        · have z := I9.put (o := .lst (vs6 ++ [y])) (co' := .lst (((ds.take i).flatMap js ++ es.take j) ++ [es[j]])) st gn ⟨gn, _, upd_same, r10.append (.cons r9 .nil)⟩
          rw [List.set_append_right _ _ (Nat.le_refl _), Nat.sub_self] at z
          have et : (ds.take i).flatMap js ++ es.take (j + 1) = ((ds.take i).flatMap js ++ es.take j) ++ [es[j]] := by
            rw [List.take_add_one, List.getElem?_eq_getElem hjl, List.append_assoc]
            rfl
          rw [et]
          exact z
      · have ej : j = es.length := by omega
        subst ej
        rw [List.take_length] at I6
        refine .inl ⟨w1.stops H6 (e6.trans I6.same), G6, (((e'.trans e3).trans e4).trans e5).trans e6, ?_⟩
        rw [etake]
        exact I6
    · have e : i = ds.length := by omega
      subst e
      rw [List.take_length] at I'
      exact .inl ⟨w.stops H' (e'.trans I'.same), q _ _ _ G' H' (e1.trans e') I' (.raw _) (hR Dl)⟩
theorem er_lc2 {wi wi1 : TI} {g g1 : TG} {vs vs1 : List Nat} {R : RK} (js : D → List D) (hw : TgtIn g vs) (hw1 : TgtIn g1 vs1) (h : Ei K wi Δ cs fun ds cs1 => (ds.flatMap js).length ≤ 100000 ∧
    (∀ (i : Nat) (d : D) (acc : List D) (p : Addr), ds[i]? = some d → Gg K g d (wipeE Δ vs) (cs1 ++ [(p, .lst acc)]) fun Δ' cs3 => Ei K wi1 Δ' cs3 fun es cs4 => es = js d ∧ cs4 = cs1 ++ [(p, .lst acc)] ∧
      ∀ (j : Nat) (e : D) (acc' : List D), es[j]? = some e → Gg K g1 e (wipeE Δ' vs1) (cs1 ++ [(p, .lst acc')]) fun Δ2 cs5 => Er K te Δ2 cs5 fun y cs6 => y = e ∧ cs6 = cs1 ++ [(p, .lst acc')]) ∧
    R (.lst (ds.flatMap js)) cs1) : Er K (tLc2 wi g tYes wi1 g1 tYes te vs vs1) Δ cs R := by
  refine er_shareLast (er_lc2C js hw hw1 ?_)
  intro σ G H Rr E I q
  refine h σ G H Rr E I fun J ds cs' G' H' e I' w ⟨h0, hs, hd⟩ => q J ds cs' G' H' e I' w ⟨h0, hs, fun p => ⟨p, _, cs', rfl, rfl, hd⟩⟩
/-! ### *xs within a display -/
theorem ea_star {R : RsK} (h : Er K te Δ cs fun d cs1 => ∃ ds, d = .lst ds ∧ Ea K t Δ cs1 fun es cs2 => R (ds ++ es) cs2) : Ea K (StX.tStar K te t) Δ cs R := fun σ G H Q E I q =>
  h σ G H _ E I fun v d cs1 G1 H1 e1 I1 r1 ⟨ds, ed, h1⟩ => by
    subst ed
    obtain ⟨p, vs, rfl, hp, rs⟩ := r1.lst_inv
    refine ⟨p, vs, rfl, .inr (I1.same.seq hp), h1 σ G1 H1 _ (E.mono e1) I1 fun ws es cs2 G2 H2 e2 I2 r2 h2 => ?_⟩
    exact q _ _ cs2 G2 H2 (e1.trans e2) I2 ((rs.mono e2).append r2) h2
/-! ### t[lo:hi], not the whole -/
theorem er_slT {lo hi : L2.TO} (h : Er K te Δ cs fun d cs1 => ∃ ds, d = .tup ds ∧ Eo K lo Δ cs1 fun l cs2 => Eo K hi Δ cs2 fun u cs3 => ¬ (HT.sIx ds.length 0 l = 0 ∧ HT.sIx ds.length ds.length u = ds.length) ∧ R (.tup (cutD ds l u)) cs3) : Er K (tSl (rSlT K) te lo hi) Δ cs R := fun σ G H Q E I q =>
  h σ G H _ E I fun v d cs1 G1 H1 e1 I1 r1 ⟨ds, ed, h1⟩ => by
    subst ed
    refine h1 σ G1 H1 _ (E.mono e1) I1 fun l cs2 G2 H2 e2 I2 h2 => h2 σ G2 H2 _ ((E.mono e1).mono e2) I2 fun u cs3 G3 H3 e3 I3 ⟨hn, h3⟩ => ?_
    obtain ⟨p, vs, rfl, hp, rs⟩ := ((r1.mono e2).mono e3).tup_inv
    refine ⟨p, vs, rfl, seqT I3.same hp, by rw [rs.length]; exact hn, fun w n => ?_⟩
    have n' := I3.same.free n
    exact q (.ref w) _ cs3 _ _ (((e1.trans e2).trans e3).trans (same_new n')) (I3.fresh n) (.tup (.inl (.inl upd_same)) ((rs.cut l u).mono (same_new n'))) h3
theorem ksl_tup {X : Cx} (hK : X.K = K) : SlR X (rSlT K) := by subst hK; exact sl_tup
/-! ### text < text, max of a list -/
theorem o2_ltS {a b : Str} (h : R (.bl (decide (sgn a < sgn b))) cs) : O2 K (fun x y H Q => ∃ i j, x = .str i ∧ y = .str j ∧ Q (.bl (decide (i.cps.toList < j.cps.toList))) H) (.str a) (.str b) cs R := fun v w G H Q rv rw' I q =>
  ⟨a, b, rv.raw_inv, rw'.raw_inv, q.now I (.raw _) h⟩
theorem kcr_maxL {X : Cx} (hK : X.K = K) (hc : X.calm = true) : CallR X (.builtin "max") (rMax K) := by subst hK; exact cr_max hc
theorem oa_maxL {ns : List Int} {m : Int} (hm : m ∈ ns) (hx : ∀ y ∈ ns, y ≤ m) (h : R (.int m) cs) : Oa K (rMax K) [.lst (ns.map D.int)] cs R := fun vs G H Q r I q => by
  obtain ⟨v, rfl, rv⟩ := reps1 r
  obtain ⟨p, ws, rfl, hp, rs⟩ := rv.lst_inv
  rw [map_int] at rs
  rw [Reps.raws rs] at hp
  refine ⟨p, ns, rfl, I.same.seq hp, List.length_pos_of_mem hm, fun k hk hy => ?_⟩
  have ek : k = m := by
    have h1 := hx k hk
    have h2 := hy m hm
    omega
  rw [ek]
  exact q.now I (.raw _) h
end
end L3

/-! L3u -/
set_option maxHeartbeats 4000000
namespace L3
open PySem PySem.W PySem.Spec PyProof.Rows L2
/-! ### a sign times an int -/
def rMulS : R2 := fun x y H Q => ∃ z i, x = .str z ∧ y = .int i ∧ z.length ≤ 16 ∧ -(2 ^ 63 : Int) ≤ i ∧ i ≤ ((1048576 : Nat) : Int) ∧ Q (.str (Txt.mul z i)) H
theorem op_mulS {X : Cx} : OpR X (binaryOp .Mult) rMulS := by
  intro pins s σ H x y v u Q I rx ry h
  obtain ⟨z, i, rfl, rfl, hz, h1, h2, q⟩ := h
  obtain ⟨t, rfl⟩ := rx
  obtain ⟨t2, rfl⟩ := ry
  exact PySem.W.KXi.mul rfl hz h1 h2 fun t' k _ _ => ⟨.str _, H, I.tok _, ⟨_, rfl⟩, q⟩
theorem foldl_one (c : Nat) : ∀ (k : Nat) (a : Array Nat), ((List.replicate k #[c]).foldl (· ++ ·) a).toList = a.toList ++ List.replicate k c
  | 0, a => by simp
  | k + 1, a => by
    rw [List.replicate_succ, List.foldl_cons, foldl_one c k, Array.toList_append, List.append_assoc]
    rfl
theorem sgn_mul (c : Nat) (n : Nat) : sgn (Txt.mul ⟨#[c]⟩ (n : Int)) = List.replicate n c := by
  unfold Txt.mul
  by_cases h1 : (n : Int) < 1
  · rw [if_pos h1]
    have : n = 0 := by omega
    subst this
    rfl
  · rw [if_neg h1]
    by_cases h2 : (((n : Int) == 1 || Str.length ⟨#[c]⟩ == 0) = true)
    · rw [if_pos h2]
      have h3 : (n : Int) = 1 := by
        have h4 : (Str.length ⟨#[c]⟩ == 0) = false := rfl
        rw [h4, Bool.or_false] at h2
        exact eq_of_beq h2
      have : n = 1 := by omega
      subst this
      rfl
    · rw [if_neg h2]
      show ((List.replicate ((n : Int)).toNat #[c]).foldl (· ++ ·) #[]).toList = _
      rw [foldl_one, Int.toNat_natCast]
      rfl
section
variable {K : PySem.W.Frag} {G G' H H' : Hp} {σ : L2.St} {Δ : Env} {cs : Cells} {R : RK} {ta tb tc te to : TE} {d x y : D} {ds es : List D} {A : AE} {t : TA}
theorem o2_mulS {c n : Nat} (hn : n ≤ 1000) (h : R (.str (Txt.mul ⟨#[c]⟩ (n : Int))) cs) : O2 K rMulS (.str ⟨#[c]⟩) (.int n) cs R := fun v w G H Q rv rw' I q =>
  ⟨_, _, rv.raw_inv, rw'.raw_inv, by show 1 ≤ 16; decide, by omega, by omega, q.now I (.raw _) h⟩
/-! ### repr of None or an int -/
def rReprO : List V → Hp → VK → Prop := fun xs H Q => ∃ o : Option Int, xs = [match o with | none => .non | some i => .int i] ∧ (∀ i, o = some i → i.natAbs.log2 < 1920) ∧ Q (.str (match o with | none => "None" | some i => toString i)) H
theorem call_reprO {X : Cx} : CallR X (.builtin "repr") rReprO := by
  intro pins s σ H xs us Q I r h
  obtain ⟨o, rfl, hi, q⟩ := h
  cases o with
  | none =>
    obtain ⟨u, rfl, e⟩ := vals1 r
    have eu : u = Value.none := e
    subst eu
    exact PySem.P.repr_of_none ⟨.str _, H, I.tok _, ⟨_, rfl⟩, q⟩
  | some i => exact call_reprI pins s σ H _ us Q I r ⟨i, rfl, hi i rfl, q⟩
def optD : Option Int → D
  | none => .non
  | some i => .int i
def optS : Option Int → Str
  | none => "None"
  | some i => toString i
theorem oa_reprO {o : Option Int} (hi : ∀ i, o = some i → i.natAbs.log2 < 1920) (h : R (.str (optS o)) cs) : Oa K rReprO [optD o] cs R := by
  cases o with
  | none => exact oa_V1 (fun H Q q => ⟨none, rfl, hi, q⟩) h
  | some i => exact oa_V1 (fun H Q q => ⟨some i, rfl, hi, q⟩) h
/-! ### min(pairs, default=None) -/
abbrev pd2 (p : Int × Int) : PyData := .tuple [.int p.1, .int p.2]
abbrev dd2 (p : Int × Int) : D := .tup [.int p.1, .int p.2]
theorem alike_pd2 (p q : Int × Int) : alike (pd2 p) (pd2 q) = true := rfl
theorem depth_pd2 : ∀ ps : List (Int × Int), PyData.depthAll (ps.map pd2) ≤ 1
  | [] => by decide
  | p :: ps => by
    show max (PyData.depth (pd2 p)) (PyData.depthAll (ps.map pd2)) ≤ 1
    have h1 : PyData.depth (pd2 p) = 1 := rfl
    have := depth_pd2 ps
    omega
theorem minD_pd2 : ∀ (ps : List (Int × Int)) (p : Int × Int), ∃ q ∈ p :: ps, minD (pd2 p) (ps.map pd2) = pd2 q ∧ ∀ r ∈ p :: ps, q.1 ≤ r.1
  | [], p => ⟨p, List.mem_singleton.mpr rfl, rfl, fun r h => by rw [List.mem_singleton.mp h]; exact Int.le_refl _⟩
  | y :: ps, p => by
    have e : minD (pd2 p) ((y :: ps).map pd2) = minD (pd2 (if (decide (y.1 < p.1 ∨ (y.1 = p.1 ∧ y.2 < p.2))) = true then y else p)) (ps.map pd2) := by
      unfold minD
      rw [List.map_cons, List.foldl_cons]
      congr 1
      rw [dataLt_ii]
      split <;> rfl
    rw [e]
    by_cases h : y.1 < p.1 ∨ (y.1 = p.1 ∧ y.2 < p.2)
    · rw [if_pos (decide_eq_true h)]
      obtain ⟨q, hq, eq, hr⟩ := minD_pd2 ps y
      refine ⟨q, List.mem_cons_of_mem _ hq, eq, fun r hr' => ?_⟩
      rcases List.mem_cons.mp hr' with rfl | hr'
      · have := hr y (List.mem_cons_self ..)
        omega
      · exact hr r hr'
    · rw [if_neg (by rw [decide_eq_false h]; exact Bool.false_ne_true)]
      obtain ⟨q, hq, eq, hr⟩ := minD_pd2 ps p
      refine ⟨q, ?_, eq, fun r hr' => ?_⟩
      · rcases List.mem_cons.mp hq with rfl | hq
        · exact List.mem_cons_self ..
        · exact List.mem_cons_of_mem _ (List.mem_cons_of_mem _ hq)
      · rcases List.mem_cons.mp hr' with rfl | hr'
        · exact hr r (List.mem_cons_self ..)
        · rcases List.mem_cons.mp hr' with rfl | hr'
          · have := hr p (List.mem_cons_self ..)
            omega
          · exact hr r (List.mem_cons_of_mem _ hr')
def rMinDP (K : PySem.W.Frag) : List V → List V → Hp → VK → Prop := fun vs zs H Q => ∃ (a : Addr) (ws : List V) (ps : List (Int × Int)), vs = [V.ref a] ∧ zs = [.non] ∧ SqL K H a ws ∧ DpAll K H ws (ps.map pd2) ∧ (ps = [] → Q .non H) ∧
  ∀ (i : Nat) v p, ws[i]? = some v → ps[i]? = some p → (∀ q ∈ ps, p.1 ≤ q.1) → Q v H
theorem pd2_inj {p q : Int × Int} (h : pd2 p = pd2 q) : p = q := by
  obtain ⟨a, b⟩ := p
  obtain ⟨c, d⟩ := q
  injection h with h
  injection h with h1 h2
  injection h1 with h1
  injection h2 with h2 _
  injection h2 with h2
  exact Prod.ext h1 h2
theorem vals_at : ∀ {vs : List V} {us : List Value} {i : Nat} {u : Value}, Vals vs us → us[i]? = some u → ∃ v, vs[i]? = some v ∧ RelV v u
  | _, _, _, _, .nil, e => by simp at e
  | _, _, 0, _, .cons r _, e => by simp at e; subst e; exact ⟨_, rfl, r⟩
  | _, _, i + 1, _, .cons _ t, e => by
    obtain ⟨u, h1, h2⟩ := vals_at (i := i) t (by simpa using e)
    exact ⟨u, by simpa using h1, h2⟩
theorem cr_minDP {X : Cx} (hK : X.K = K) (hc : X.calm = true) (hu : X.A.units + 64 < cLine) : CallRK X (.builtin "min") [Str.ofString "default"] (rMinDP K) := by
  subst hK
  intro pins s σ H vs zs us ws Q I r rz h
  obtain ⟨a, wv, ps, rfl, rfl, hs, hd, h0, h1⟩ := h
  obtain ⟨its, rv, hl, _⟩ := I.list hs
  rw [Vals.ref1 r]
  obtain ⟨w1, rfl, e1⟩ := vals1 rz
  obtain rfl : w1 = Value.none := e1
  obtain ⟨as, ra⟩ := Dp.readsAll I _ _ _ hd rv
  have hdep := depth_pd2 ps
  show wpAny _ _ (call (.builtin "min") [.ref a] [(Str.ofString "default", .none)]) _ _ _
  refine min_list_default (I.ok.hd hc) hl.isList ra ⟨fun x hx y hy => ?_, fun x hx => ?_⟩ (by omega) (fun e h' tk hk => ?_) fun y ys i v h' tk bs e hv hr hk => ?_
  · obtain ⟨p, _, rfl⟩ := List.mem_map.mp hx
    obtain ⟨q, _, rfl⟩ := List.mem_map.mp hy
    rfl
  · obtain ⟨p, _, rfl⟩ := List.mem_map.mp hx
    exact fun z => nomatch z
  · exact ⟨.non, H, I.kept hk, rfl, h0 (List.map_eq_nil_iff.mp e)⟩
  · cases ps with
    | nil => cases e
    | cons p ps =>
      injection e with e1 e2
      subst e1 e2
      have hv2 : its[i]? = some v := by simpa using hv
      obtain ⟨v0, hv0, rv0⟩ := vals_at rv hv2
      obtain ⟨bs2, r2, hi, _, _⟩ := readsAll_at ra i v (by simpa using hv)
      obtain ⟨q, hq, eq, hmin⟩ := minD_pd2 ps p
      have hi2 : i < (p :: ps).length := by rw [List.length_map] at hi; exact hi
      obtain ⟨e3, _⟩ := PyProof.Rows.reads_det (fun b o hb _ => hk b o hb) r2 hr
      have e4 : ((p :: ps).map pd2).getD i .none = pd2 ((p :: ps)[i]) := by
        rw [List.getD_eq_getElem?_getD, List.getElem?_map, List.getElem?_eq_getElem hi2]
        rfl
      rw [e4, eq] at e3
      have e5 := pd2_inj e3
      refine ⟨v0, H, I.kept hk, rv0, h1 i v0 _ hv0 (List.getElem?_eq_getElem hi2) fun r hr' => ?_⟩
      rw [← e5]
      exact hmin r hr'
theorem dp_pairs (s : Same G H) : ∀ {vs : List V} {ps : List (Int × Int)}, Reps K G vs (ps.map dd2) → DpAll K H vs (ps.map pd2)
  | _, [], h => by cases h; exact .nil
  | _, p :: ps, h => by
    cases h with
    | cons a b =>
      refine .cons ?_ (dp_pairs s b)
      have := dp_of s a rfl
      exact this
theorem er_minDP (h : Ea K t Δ cs fun xs cs1 => ∃ (p : Addr) (k : Nat) (ps : List (Int × Int)), xs = [.raw (.ref p)] ∧ cs1[k]? = some (p, CO.lst (ps.map dd2)) ∧ (ps = [] → R .non cs1) ∧ ∀ q ∈ ps, (∀ r ∈ ps, q.1 ≤ r.1) → R (dd2 q) cs1) :
    Er K (tCKw (rMinDP K) t (tCons (tC .non) tNil)) Δ cs R := fun σ G H Q E I q =>
  h σ G H _ E I fun vs xs cs1 G1 H1 e1 I1 r1 ⟨p, k, ps, ex, hc, h0, h1⟩ => by
    subst ex
    obtain ⟨v, rfl, rv⟩ := reps1 r1
    rw [rv.raw_inv]
    obtain ⟨gn, ws, hp, rs⟩ := I1.lst hc
    refine ⟨p, ws, ps, rfl, rfl, .inl (.inl hp), dp_pairs I1.same rs, fun e => (q.mono e1).now I1 (.raw _) (h0 e), fun i v pq hv hpq hmin => ?_⟩
    have hd : (ps.map dd2)[i]? = some (dd2 pq) := by rw [List.getElem?_map, hpq]; rfl
    obtain ⟨v2, hv2, rv2⟩ := rs.get hd
    rw [hv2] at hv
    cases hv
    exact (q.mono e1).now I1 rv2 (h1 pq (List.mem_of_getElem? hpq) hmin)
end
end L3

/-! L3v -/
set_option maxHeartbeats 4000000
namespace L3
open PySem PySem.Spec PyProof.Rows L2
/-! ### lists of nested data against [], and in them -/
def LayQ (d : D) : Prop := okD d = true ∧ PyData.canLay0 (pdD d) = true ∧ PyData.depth (pdD d) ≤ 10
theorem layq_all : ∀ {l : List D}, (∀ d ∈ l, LayQ d) → okL l = true ∧ PyData.canLayAll0 (pdL l) = true ∧ PyData.depthAll (pdL l) ≤ 10
  | [], _ => ⟨rfl, rfl, by decide⟩
  | x :: xs, h => by
    obtain ⟨a1, a2, a3⟩ := h x (List.mem_cons_self ..)
    obtain ⟨b1, b2, b3⟩ := layq_all (l := xs) fun d hd => h d (List.mem_cons_of_mem _ hd)
    refine ⟨?_, ?_, ?_⟩
    · show (okD x && okL xs) = true
      rw [a1, b1]; rfl
    · show (PyData.canLay0 (pdD x) && PyData.canLayAll0 (pdL xs)) = true
      rw [a2, b2]; rfl
    · show max (PyData.depth (pdD x)) (PyData.depthAll (pdL xs)) ≤ 10
      omega
theorem layq_lst {l : List D} (h : ∀ d ∈ l, LayQ d) : okL l = true ∧ SeqAt.shaped (.list (pdL l)) = true := by
  obtain ⟨h1, h2, h3⟩ := layq_all h
  refine ⟨h1, ?_⟩
  unfold SeqAt.shaped
  show (PyData.canLayAll0 (pdL l) && decide (PyData.depthAll (pdL l) + 1 ≤ 64)) = true
  rw [h2, decide_eq_true (show PyData.depthAll (pdL l) + 1 ≤ 64 by omega)]
  rfl
theorem layq_sh {d : D} (h : LayQ d) : SeqAt.shaped (pdD d) = true := by
  unfold SeqAt.shaped
  rw [h.2.1, decide_eq_true (show PyData.depth (pdD d) ≤ 64 by have := h.2.2; omega)]
  rfl
theorem layq_flat {d : D} (h : flatP d = true) : LayQ d := ⟨ok_flat h, (lay_flat h).1, by rw [(lay_flat h).2]; decide⟩
theorem layq_tup {l : List D} (h : l.all flatP = true) : LayQ (.tup l) := by
  obtain ⟨h1, h2, h3⟩ := layq_all (l := l) fun d hd => layq_flat (List.all_eq_true.mp h d hd)
  have h4 := (layL_flat h).2
  refine ⟨h1, h2, ?_⟩
  show PyData.depthAll (pdL l) + 1 ≤ 10
  omega
theorem any_self {x : D} : ∀ {l : List D}, x ∈ l → SeqAt.shaped (pdD x) = true → ((pdL l).any fun z => PyData.eqv z (pdD x)) = true
  | y :: l, h, s => by
    show (PyData.eqv (pdD y) (pdD x) || ((pdL l).any fun z => PyData.eqv z (pdD x))) = true
    rcases List.mem_cons.mp h with rfl | h
    · rw [eqv_self s]; rfl
    · rw [any_self h s, Bool.or_true]
section
variable {K : PySem.W.Frag} {cs : Cells} {R : RK} {x : D} {ds : List D}
theorem o2_eqNilQ (hf : ∀ d ∈ ds, LayQ d) (h : R (.bl ds.isEmpty) cs) : O2 K (rEqD K) (.lst ds) (.lst []) cs R := by
  obtain ⟨l1, l2⟩ := layq_lst hf
  refine o2_eqD l1 rfl l2 (shaped_flatL (l := []) rfl) ?_
  cases ds with
  | nil => exact h
  | cons a r => exact h
theorem o2_neNilQ (hf : ∀ d ∈ ds, LayQ d) (h : R (.bl (!ds.isEmpty)) cs) : O2 K (rNeD K) (.lst ds) (.lst []) cs R := by
  obtain ⟨l1, l2⟩ := layq_lst hf
  refine o2_neD l1 rfl l2 (shaped_flatL (l := []) rfl) ?_
  cases ds with
  | nil => exact h
  | cons a r => exact h
theorem kop_notInD {X : Cx} {k : Nat} (hK : X.K = K) (hr : Room k X.A) : OpR X (compareOp .NotIn) (rNotInD K) := by subst hK; exact op_notInD (by have := hr.un; omega)
theorem o2_notInMem (hx : LayQ x) (hf : ∀ d ∈ ds, LayQ d) (hm : x ∈ ds) (h : R (.bl false) cs) : O2 K (rNotInD K) x (.lst ds) cs R := fun v w G H Q rv rw' I q => by
  obtain ⟨l1, l2⟩ := layq_lst hf
  refine ⟨pdD x, pdL ds, dp_of I.same rv hx.1, ?_, layq_sh hx, l2, q.now I (.raw _) ?_⟩
  · have := dp_of (d := .lst ds) I.same rw' l1
    exact this
  · rw [any_self hm (layq_sh hx)]
    exact h
end
end L3

/-! L3w -/
set_option maxHeartbeats 4000000
namespace L3
open PySem PySem.W PySem.Spec PyProof.Rows L2
/-! ### enumerate(tuple) -/
theorem new_enumT {ta : Addr} {xs : Array Value} : Meets (Builtin.«enumerate.__new__» ⟨[.type "enumerate", .ref ta], []⟩) (fun _ R s0 => s0.heap.IsTuple ta xs ∧
    R (.ok (.ret (.ref (s0.heap.push ⟨.type "tuple_iterator", none, .fields #[.ref ta, .int 0 0], #[]⟩).objs.size)))
      { s0 with heap := (s0.heap.push ⟨.type "tuple_iterator", none, .fields #[.ref ta, .int 0 0], #[]⟩).push ⟨.type "enumerate", none, .fields #[.none, .bool false, .ref s0.heap.objs.size, rawInt 0, .none, .none], #[]⟩ }) := by
  refine .of_wp fun pr wo Ar R s0 ⟨ht, hR⟩ => ?_
  obtain ⟨hp0, g0, d0, t0, os0⟩ := s0
  have hsb := sub_enumerate
  have go : ∀ {A2 : Around} {E2 : Value → Shared → Prop} {Q2 : Value → Shared → Prop}, Q2 (.ref hp0.objs.size) ⟨hp0.push ⟨.type "tuple_iterator", none, .fields #[.ref ta, .int 0 0], #[]⟩, g0, d0, t0, os0⟩ → wpAny (model pr wo) A2 (pyIter (.ref ta)) Q2 E2 ⟨hp0, g0, d0, t0, os0⟩ :=
    fun q => (begins_tuple ta xs).iter pr wo _ _ ⟨hp0, g0, d0, t0, os0⟩ _ ht q
  wp_walk using go
  refine wpAny_stack_any fun fr => wpAny_pure ?_
  split
  · rename_i c1 _ _ _ _ _
    cases (c1 == Value.type "enumerate") <;> (wp_walk using go; exact ⟨_, rfl, hR⟩)
  · wp_walk using go; exact ⟨_, rfl, hR⟩
theorem call_enumT {prog : Program} {w : World} {A : Around} {E : Value → Shared → Prop} {s : Shared} {ta : Addr} {xs : Array Value} {Q : Value → Shared → Prop} (ht : s.heap.IsTuple ta xs)
    (q : ∀ hp, IsEnum hp (s.heap.objs.size + 1) s.heap.objs.size 0 .none → hp.IsTupleIter s.heap.objs.size ta 0 → (∀ b o, s.heap.get? b = some o → hp.get? b = some o) → Q (.ref (s.heap.objs.size + 1)) { s with heap := hp }) :
    wpAny (model prog w) A (call (.type "enumerate") [.ref ta]) Q E s := by
  refine callType_new F.called_enumerate (by decide) (F.typeCall_enumerate_1 _) (F.newCall_enumerate_1 _) (fun ob => F.args_object_init_2 ob _) F.entry_enumerate_new new_enumT ⟨ht, ?_⟩
  generalize hi : (⟨.type "tuple_iterator", none, .fields #[.ref ta, .int 0 0], #[]⟩ : Obj) = oi
  have fi : oi.isFreed = false := by rw [← hi]; rfl
  have sz : (s.heap.push oi).objs.size = s.heap.objs.size + 1 := by rw [Heap.size_push]
  generalize hn : (⟨.type "enumerate", none, .fields #[.none, .bool false, .ref s.heap.objs.size, rawInt 0, .none, .none], #[]⟩ : Obj) = oe
  have fe : oe.isFreed = false := by rw [← hn]; rfl
  have ge : ((s.heap.push oi).push oe).get? (s.heap.objs.size + 1) = some oe := by
    have e := Heap.get?_push_size (s.heap.push oi) (o := oe) fe
    rw [sz] at e
    exact e
  have gi : ((s.heap.push oi).push oe).get? s.heap.objs.size = some oi := Heap.get?_push_of_some _ (Heap.get?_push_size _ fi)
  rw [sz]
  subst hi hn
  exact ⟨⟨_, ge, rfl⟩, q _ ge ⟨_, gi, rfl, rfl⟩ fun b o x => Heap.get?_push_of_some _ (Heap.get?_push_of_some _ x)⟩
def IttE (K : PySem.W.Frag) (a : Addr) : It where
  go i H := ∃ (xs : List V) (x : V), SqT K H a xs ∧ xs[i]? = some x
  yld i H v H' := ∃ T x, v = .ref T ∧ H T = none ∧ H' = upd H T (.tup [.int (i : Nat), x]) ∧ ∀ xs, SqT K H a xs → xs[i]? = some x
  stop i H := ∃ xs : List V, SqT K H a xs ∧ xs.length = i
theorem enum_apart {h : Heap} {e it a : Addr} {c : Int} {old : Value} {xs : Array Value} {i : Nat} (he : IsEnum h e it c old) (hi : h.IsTupleIter it a i) (ht : h.IsTuple a xs) : a ≠ e ∧ a ≠ it := by
  obtain ⟨o, ho, hc, _⟩ := ht
  obtain ⟨o2, ho2, hc2, _⟩ := hi
  constructor
  · rintro rfl
    rw [he] at ho
    cases ho
    injection hc with z
    exact absurd z (by decide)
  · rintro rfl
    rw [ho2] at ho
    cases ho
    rw [hc2] at hc
    injection hc with z
    exact absurd z (by decide)
theorem turn_enumT {P : Program} {w : World} {K : PySem.W.Frag} {elts : List Expr} {kk : Nat} {tpos : Pos} (a e it : Addr) :
    Turn P w K (.Tuple elts kk tpos) (IttE K a) [e, it] e (fun i h => (∃ old, IsEnum h e it ((i : Nat) : Int) old) ∧ h.IsTupleIter it a i ∧ e ≠ it) where
  mem := by simp
  obj := fun i h st b hb => by
    obtain ⟨⟨old, hen⟩, ⟨o, ho, hc, hd⟩, _⟩ := st
    rcases (show b = e ∨ b = it by simpa using hb) with rfl | rfl
    · exact ⟨_, hen, fun v q => nomatch q⟩
    · exact ⟨o, ho, fun v q => by rw [hd] at q; cases q⟩
  keep := fun i h h' st k => let ⟨⟨old, hen⟩, hti, hne⟩ := st; ⟨⟨old, k e (by simp) _ hen⟩, hti.at fun o q => k it (by simp) o q, hne⟩
  item := by
    intro X hP hw hK hc i pins s σ H E I hf st hg
    subst hP hw hK
    obtain ⟨⟨old, hen⟩, hti, hne⟩ := st
    obtain ⟨xs, x, hq, hx⟩ := hg
    obtain ⟨its, rv, pt, hz⟩ := I.tuple hq
    obtain ⟨u, hu, ru⟩ := rv.get hx
    obtain ⟨n1, n2⟩ := enum_apart hen hti pt
    have el : e < s.heap.objs.size := Heap.lt_size hen
    have il : it < s.heap.objs.size := by obtain ⟨_, q, _⟩ := hti; exact Heap.lt_size q
    have hl : i < its.toArray.size := by
      have := (List.getElem?_eq_some_iff.mp hu).1
      simpa using this
    have hh : X.A.in1.handled = none := I.ok.hd hc
    refine wpAny_pyNext_enum_itemD (Draws.tuple hh it a n2 its.toArray) hen ⟨hti, pt⟩ hl hne (by simp only [List.mem_cons, List.not_mem_nil, or_false, not_or]; exact ⟨hne, Ne.symm n1⟩) fun u2 hp tk hP hout hst hT hsz hk => ?_
    have hu2 : its.toArray[i]? = some u2 := hP
    rw [show its.toArray[i]? = some u by simpa using hu] at hu2
    cases hu2
    refine ⟨_, rfl, wpAny_letOwnedTupleGo_enum (s := { s with heap := hp, toks := tk + 1 }) hout fun hp2 hen2 sb => ?_⟩
    have gT : hp2.get? s.heap.objs.size = some { cls := .type "tuple", data := .seq #[.int i tk, u] } := (sb.2 _ (Nat.ne_of_gt el)).trans hT
    have made : ObjOk X.prog X.w (upd H s.heap.objs.size (.tup [.int (i : Nat), x])) hp2 s.heap.objs.size (.tup [.int (i : Nat), x]) :=
      ⟨by show 2 ≤ sizeLine; decide, [.int i tk, u], .cons ⟨_, rfl⟩ (.cons ru .nil), ⟨_, gT, rfl, _, rfl⟩⟩
    have J : Inv X pins σ (upd H s.heap.objs.size (.tup [.int (i : Nat), x])) { s with heap := hp2, toks := tk + 1 } :=
      I.turnedNew (ch := [e, it]) (fun b ob hb q => by
        have b1 : b ≠ e := fun z => hb (by simp [z])
        have b2 : b ≠ it := fun z => hb (by simp [z])
        exact (sb.2 b b1).trans (hk b ob b1 b2 q)) hf (Nat.le_refl _) made
    refine ⟨.ref s.heap.objs.size, _, J, rfl, ⟨_, x, rfl, I.hok.fresh (Nat.le_refl _), rfl, fun ys hy => by rw [I.tuple_inj hy hq]; exact hx⟩, ⟨⟨u, ?_⟩, hst.1.at fun o q => (sb.2 it (Ne.symm hne)).trans q, hne⟩, fun b hb => ?_⟩
    · rw [show ((i + 1 : Nat) : Int) = (i : Int) + 1 by omega]
      exact hen2
    · have lb : b < s.heap.objs.size := by
        rcases (show b = e ∨ b = it by simpa using hb) with rfl | rfl
        · exact el
        · exact il
      rw [upd_ne (Nat.ne_of_lt lb)]
      exact (hf b hb).1
  done := by
    intro X hP hw hK hc i pins s σ H E I hf st hg
    subst hP hw hK
    obtain ⟨⟨old, hen⟩, hti, hne⟩ := st
    obtain ⟨xs, hq, hx⟩ := hg
    obtain ⟨its, rv, pt, hz⟩ := I.tuple hq
    obtain ⟨n1, n2⟩ := enum_apart hen hti pt
    obtain ⟨f0, f1, f2, f3, f4, f5⟩ := hf it (by simp)
    have hh : X.A.in1.handled = none := I.ok.hd hc
    have hl := rv.length
    have ei : i = its.toArray.size := by simp; omega
    rw [ei] at hti
    exact wpAny_pyNext_enum_endD (Draws.tuple hh it a n2 its.toArray) hen ⟨hti, pt⟩ fun hp eb => ⟨rfl, I.turned (t' := s.toks) (fun b o hb q => eb b o hb q) f0 f1 f3 f4 f5⟩
  self := fun A i s Q E st h => let ⟨⟨_, hen⟩, _⟩ := st; wpAny_pyIter_enum hen h
def iEnumT (K : PySem.W.Frag) (ta : TA) : TI := fun σ H R => ta σ H fun vs H1 => ∃ (a : Addr) (xs : List V), vs = [.ref a] ∧ SqT K H1 a xs ∧ R (IttE K a) H1
theorem pi_enumT {X : Cx} {K : PySem.W.Frag} {e : Expr} {ta : TA} {p pos tpos : Pos} {elts : List Expr} {kk : Nat} (hK : X.K = K) (hg : Gl X "enumerate") (hm : X.mg "enumerate" = none) (ha : PA X [e] ta) (hs : starEach [e] X.env = [(false, eval e X.env)] := by rfl) :
    PI X (.Tuple elts kk tpos) (.Call (.Name "enumerate" p) [e] [] pos) (iEnumT K ta) := by
  subst hK
  refine ⟨fun pins s σ H R I h => ?_⟩
  refine Call_ (ld_blt I hg hm boot_enumerate (PyProof.Rows.callWith_type1 (thn (ha.run pos pins s σ H _ I h) fun us s1 ⟨vs, H1, I1, r1, a, xs, ex, hq, q⟩ => ?_) hs rfl))
  subst ex
  cases r1 with
  | cons r rr =>
    cases rr
    cases r
    obtain ⟨its, rv, pt, hz⟩ := I1.tuple hq
    refine call_enumT pt fun hp hen hti hk => wpAny_pyIter_enum hen ?_
    refine ⟨s1.heap.objs.size + 1, [s1.heap.objs.size + 1, s1.heap.objs.size], _, _, H1, rfl, I1.kept (t' := s1.toks) hk, turn_enumT a (s1.heap.objs.size + 1) s1.heap.objs.size, ⟨⟨.none, hen⟩, hti, Nat.succ_ne_self _⟩, fun b hb => ?_, q⟩
    have lb : s1.heap.objs.size ≤ b := by
      rcases (show b = s1.heap.objs.size + 1 ∨ b = s1.heap.objs.size by simpa using hb) with rfl | rfl
      · exact Nat.le_add_right _ _
      · exact Nat.le_refl _
    exact I1.fpOk lb (I1.hok.fresh lb)
section
variable {K : PySem.W.Frag} {Δ : Env} {cs : Cells} {ta : TA}
theorem ei_enumT {R : RsK} (h : Ea K ta Δ cs fun xs cs1 => ∃ ds, xs = [.tup ds] ∧ R (enumD ds) cs1) : Ei K (iEnumT K ta) Δ cs R := fun σ G H Rr E I q =>
  h σ G H _ E I fun ws xs cs1 G1 H1 e1 I1 r1 ⟨ds, ed, h1⟩ => by
    subst ed
    obtain ⟨v, rfl, rv⟩ := reps1 r1
    obtain ⟨p, vs, rfl, hp, rs⟩ := rv.tup_inv
    have hl : (enumD ds).length = vs.length := by simp [enumD, rs.length]
    refine ⟨p, vs, rfl, seqT I1.same hp, q _ _ cs1 G1 H1 e1 I1 ⟨fun i H' hi s => ?_, fun H' s => ⟨vs, seqT s hp, hl.symm⟩, fun i H' x H2 G2 cs2 d hd s I2 y => ?_⟩ h1⟩
    · have hi' : i < vs.length := by rw [← hl]; exact hi
      exact ⟨vs, vs[i], seqT s hp, List.getElem?_eq_getElem hi'⟩
    · obtain ⟨T, x1, rfl, nT, rfl, y⟩ := y
      obtain ⟨d1, hd1, rd1⟩ := rs.getV (y vs (seqT (s.trans I2.same) hp))
      unfold enumD at hd
      rw [List.getElem?_mapIdx, hd1] at hd
      cases hd
      have sn := same_new (o := .tup [V.int (i : Nat), x1]) (I2.same.free nT)
      exact ⟨_, sn, I2.fresh nT, .tup (.inl (.inl upd_same)) (.cons (.raw _) (.cons ((rd1.mono s).mono sn) .nil))⟩
end
end L3

/-! L3x -/
set_option maxHeartbeats 4000000
namespace L3
open PySem PySem.W PySem.Spec PyProof.Rows L2
/-! ### zip(tuple, list) -/
def ItTL (K : PySem.W.Frag) (a b : Addr) : It where
  go i H := ∃ (xs ys : List V) (x y : V), SqT K H a xs ∧ SqL K H b ys ∧ xs[i]? = some x ∧ ys[i]? = some y
  yld i H v H' := ∃ T x y, v = .ref T ∧ H T = none ∧ H' = upd H T (.tup [x, y]) ∧ (∀ xs, SqT K H a xs → xs[i]? = some x) ∧ ∀ ys, SqL K H b ys → ys[i]? = some y
  stop i H := ∃ xs ys : List V, SqT K H a xs ∧ SqL K H b ys ∧ i ≤ xs.length ∧ i ≤ ys.length ∧ (i = xs.length ∨ i = ys.length)
abbrev zfp (z TI TO i1 i2 : Addr) : List Addr := [z, TI, TO, i1, i2]
theorem turn_zipTL {P : Program} {w : World} {K : PySem.W.Frag} {elts : List Expr} {kk : Nat} {tpos : Pos} {a b z TI TO i1 i2 : Addr} (S : ZipSep2 z TI TO i1 i2 [i1, a] [i2, b]) (na : a ≠ i1) (nb : b ≠ i2) :
    Turn P w K (.Tuple elts kk tpos) (ItTL K a b) (zfp z TI TO i1 i2) z (fun i h => IsZip h z TI TO .none ∧ IsTupOf2 h TI (.ref i1) (.ref i2) ∧ (∃ x y, IsTupOf2 h TO x y) ∧ h.IsTupleIter i1 a i ∧ h.IsListIter i2 b i) where
  mem := by simp
  obj := fun i h st c hc => by
    obtain ⟨g1, g2, ⟨x, y, g3⟩, ⟨o1, e1, _, d1⟩, ⟨o2, e2, _, d2⟩⟩ := st
    rcases (show c = z ∨ c = TI ∨ c = TO ∨ c = i1 ∨ c = i2 by simpa using hc) with rfl | rfl | rfl | rfl | rfl
    · exact ⟨_, g1, fun v q => nomatch q⟩
    · exact ⟨_, g2, fun v q => nomatch q⟩
    · exact ⟨_, g3, fun v q => nomatch q⟩
    · exact ⟨o1, e1, fun v q => by rw [d1] at q; cases q⟩
    · exact ⟨o2, e2, fun v q => by rw [d2] at q; cases q⟩
  keep := fun i h h' st k => by
    obtain ⟨g1, g2, ⟨x, y, g3⟩, q1, q2⟩ := st
    refine ⟨k z (by simp) _ g1, k TI (by simp) _ g2, ⟨x, y, k TO (by simp) _ g3⟩, q1.at fun o q => k i1 (by simp) o q, q2.at fun o q => k i2 (by simp) o q⟩
  item := by
    intro X hP hw hK hc i pins s σ H E I hf st hg
    subst hP hw hK
    obtain ⟨g1, g2, ⟨x0, y0, g3⟩, q1, q2⟩ := st
    obtain ⟨xs, ys, x, y, hqx, hqy, hx, hy⟩ := hg
    obtain ⟨its, rv, pt, _⟩ := I.tuple hqx
    obtain ⟨jts, rw2, pl, _⟩ := I.list hqy
    obtain ⟨u, hu, ru⟩ := rv.get hx
    obtain ⟨v, hv, rv2⟩ := rw2.get hy
    have hh : X.A.in1.handled = none := I.ok.hd hc
    have zl : z < s.heap.objs.size := Heap.lt_size g1
    have lu : i < its.toArray.size := by have := (List.getElem?_eq_some_iff.mp hu).1; simpa using this
    have lv : i < jts.toArray.size := by have := (List.getElem?_eq_some_iff.mp hv).1; simpa using this
    refine wpAny_pyNext_zipD2_item S (Draws.tuple hh i1 a na its.toArray) (Draws.list hh i2 b nb jts.toArray) g1 g2 g3 ⟨q1, pt⟩ ⟨q2, pl.isList⟩ lu lv fun u' v' hp tk hu' hv' k1 k2 k3 k4 k5 k6 k7 => ?_
    have eu : its.toArray[i]? = some u' := hu'
    have ev : jts.toArray[i]? = some v' := hv'
    rw [show its.toArray[i]? = some u by simpa using hu] at eu
    rw [show jts.toArray[i]? = some v by simpa using hv] at ev
    cases eu
    cases ev
    refine ⟨_, rfl, wpAny_letOwnedTupleGo_zip (s := { s with heap := hp, toks := tk }) k1 fun hp2 m1 sb => ?_⟩
    have gT : hp2.get? s.heap.objs.size = some { cls := .type "tuple", data := .seq #[u, v] } := (sb.2 _ (Nat.ne_of_gt zl)).trans k5
    have made : ObjOk X.prog X.w (upd H s.heap.objs.size (.tup [x, y])) hp2 s.heap.objs.size (.tup [x, y]) :=
      ⟨by show 2 ≤ sizeLine; decide, [u, v], .cons ru (.cons rv2 .nil), ⟨_, gT, rfl, _, rfl⟩⟩
    have J : Inv X pins σ (upd H s.heap.objs.size (.tup [x, y])) { s with heap := hp2, toks := tk } :=
      I.turnedNew (ch := zfp z TI TO i1 i2) (fun c o hb q => by
        have c1 : c ≠ z := fun e => hb (by simp [e])
        have c2 : c ≠ TO := fun e => hb (by simp [e])
        have c3 : c ≠ i1 := fun e => hb (by simp [e])
        have c4 : c ≠ i2 := fun e => hb (by simp [e])
        exact (sb.2 c c1).trans (k7 c o c1 c2 c3 c4 q)) hf (Nat.le_refl _) made
    have i1z : i1 ≠ z := fun e => S.zf1 (by rw [← e]; exact S.mem1)
    have i2z : i2 ≠ z := fun e => S.zf2 (by rw [← e]; exact S.mem2)
    refine ⟨.ref s.heap.objs.size, _, J, rfl, ⟨_, x, y, rfl, I.hok.fresh (Nat.le_refl _), rfl, fun l hl => by rw [I.tuple_inj hl hqx]; exact hx, fun l hl => by rw [I.list_inj hl hqy]; exact hy⟩, ⟨m1, ?_, ⟨u, v, ?_⟩, ?_, ?_⟩, fun c hcm => ?_⟩
    · exact (sb.2 _ S.TIz).trans (k7 _ _ S.TIz S.TITO S.TIi1 S.TIi2 g2)
    · exact (sb.2 _ S.TOz).trans k2
    · exact k3.1.at fun o q => (sb.2 _ i1z).trans q
    · exact k4.1.at fun o q => (sb.2 _ i2z).trans q
    · have lc : c < s.heap.objs.size := by
        rcases (show c = z ∨ c = TI ∨ c = TO ∨ c = i1 ∨ c = i2 by simpa using hcm) with rfl | rfl | rfl | rfl | rfl
        · exact zl
        · exact Heap.lt_size g2
        · exact Heap.lt_size g3
        · obtain ⟨_, e1, _⟩ := q1; exact Heap.lt_size e1
        · obtain ⟨_, e2, _⟩ := q2; exact Heap.lt_size e2
      rw [upd_ne (Nat.ne_of_lt lc)]
      exact (hf c hcm).1
  done := by
    intro X hP hw hK hc i pins s σ H E I hf st hg
    subst hP hw hK
    obtain ⟨g1, g2, ⟨x0, y0, g3⟩, q1, q2⟩ := st
    obtain ⟨xs, ys, hqx, hqy, l1, l2, hend⟩ := hg
    obtain ⟨its, rv, pt, _⟩ := I.tuple hqx
    obtain ⟨jts, rw2, pl, _⟩ := I.list hqy
    have hh : X.A.in1.handled = none := I.ok.hd hc
    have m1 : its.toArray.size = xs.length := by have := rv.length; simp; omega
    have m2 : jts.toArray.size = ys.length := by have := rw2.length; simp; omega
    refine wpAny_pyNext_zipD2_end S (Draws.tuple hh i1 a na its.toArray) (Draws.list hh i2 b nb jts.toArray) g1 g2 g3 ⟨q1, pt⟩ ⟨q2, pl.isList⟩ (by omega) (by omega) (by omega) fun hp tk hk => ⟨rfl, I.turnedL (t' := tk) (ch := zfp z TI TO i1 i2) (fun c o hb q => ?_) hf⟩
    have c1 : c ≠ z := fun e => hb (by simp [e])
    have c2 : c ≠ TO := fun e => hb (by simp [e])
    have c3 : c ≠ i1 := fun e => hb (by simp [e])
    have c4 : c ≠ i2 := fun e => hb (by simp [e])
    exact hk c o c1 c2 c3 c4 q
  self := fun A i s Q E st h => wpAny_pyIter_zip st.1 h
def iZipTL (K : PySem.W.Frag) (ta : TA) : TI := fun σ H R => ta σ H fun vs H1 => ∃ (a b : Addr) (xs ys : List V), vs = [.ref a, .ref b] ∧ SqT K H1 a xs ∧ SqL K H1 b ys ∧ R (ItTL K a b) H1
theorem pi_zipTL {X : Cx} {K : PySem.W.Frag} {e e2 : Expr} {ta : TA} {p pos tpos : Pos} {elts : List Expr} {kk : Nat} (hK : X.K = K) (hg : Gl X "zip") (hm : X.mg "zip" = none) (ha : PA X [e, e2] ta)
    (hs : starEach [e, e2] X.env = (false, eval e X.env) :: starEach [e2] X.env := by rfl) (hpl : (backTo pos (starEach [e2] X.env)).any (·.1) = false := by rfl) :
    PI X (.Tuple elts kk tpos) (.Call (.Name "zip" p) [e, e2] [] pos) (iZipTL K ta) := by
  subst hK
  refine ⟨fun pins s σ H R I h => ?_⟩
  refine Call_ (ld_blt I hg hm PyProof.Rows.boot_zip (PyProof.Rows.callWith_type1 (thn (ha.run pos pins s σ H _ I h) fun us s1 ⟨vs, H1, I1, r1, a, b, xs, ys, ex, hqx, hqy, q⟩ => ?_) hs hpl))
  subst ex
  cases r1 with
  | cons r rr =>
    cases rr with
    | cons r2 rr =>
    cases rr
    cases r
    cases r2
    obtain ⟨its, rv, pt, _⟩ := I1.tuple hqx
    obtain ⟨jts, rw2, pl, _⟩ := I1.list hqy
    have la : a < s1.heap.objs.size := by obtain ⟨o, e, _⟩ := pt; exact Heap.lt_size e
    have lb : b < s1.heap.objs.size := by obtain ⟨o, e, _⟩ := pl.isList; exact Heap.lt_size e
    refine zip_begins2 (begins_tuple a its.toArray) (begins_list b jts.toArray) pt pl.isList fun hp k1 k2 k3 k4 k5 k6 k7 => wpAny_pyIter_zip k1 ?_
    have S : ZipSep2 (s1.heap.objs.size + 4) (s1.heap.objs.size + 2) (s1.heap.objs.size + 3) s1.heap.objs.size (s1.heap.objs.size + 1) [s1.heap.objs.size, a] [s1.heap.objs.size + 1, b] :=
      zip_sep2 (fp1 := [a]) (fp2 := [b]) (fun c hc => by rw [List.mem_singleton.mp hc]; exact la) (fun c hc => by rw [List.mem_singleton.mp hc]; exact lb)
    refine ⟨s1.heap.objs.size + 4, zfp _ _ _ _ _, _, _, H1, rfl, I1.kept (t' := s1.toks) k7, turn_zipTL S (Nat.ne_of_lt la) (Nat.ne_of_lt (Nat.lt_succ_of_lt lb)), ⟨k1, k2, ⟨_, _, k3⟩, ⟨_, k4, rfl, rfl⟩, ⟨_, k5, rfl, rfl⟩⟩, fun c hc => ?_, q⟩
    have lc : s1.heap.objs.size ≤ c := by
      rcases (show c = s1.heap.objs.size + 4 ∨ c = s1.heap.objs.size + 2 ∨ c = s1.heap.objs.size + 3 ∨ c = s1.heap.objs.size ∨ c = s1.heap.objs.size + 1 by simpa using hc) with rfl | rfl | rfl | rfl | rfl <;> omega
    exact I1.fpOk lc (I1.hok.fresh lc)
section
variable {K : PySem.W.Frag} {Δ : Env} {cs : Cells} {ta : TA}
def zipD (ds es : List D) : List D := (ds.zip es).map fun p => D.tup [p.1, p.2]
theorem zipD_get {ds es : List D} {i : Nat} {d : D} (h : (zipD ds es)[i]? = some d) : ∃ x y, ds[i]? = some x ∧ es[i]? = some y ∧ d = .tup [x, y] := by
  unfold zipD at h
  rw [List.getElem?_map] at h
  cases e : (ds.zip es)[i]? with
  | none => rw [e] at h; cases h
  | some p =>
    rw [e] at h
    cases h
    obtain ⟨h1, h2⟩ := List.getElem?_zip_eq_some.mp e
    exact ⟨p.1, p.2, h1, h2, rfl⟩
theorem ei_zipTL {R : RsK} (h : Ea K ta Δ cs fun xs cs1 => ∃ ds es, xs = [.tup ds, .lst es] ∧ R (zipD ds es) cs1) : Ei K (iZipTL K ta) Δ cs R := fun σ G H Rr E I q =>
  h σ G H _ E I fun ws xs cs1 G1 H1 e1 I1 r1 ⟨ds, es, ed, h1⟩ => by
    subst ed
    obtain ⟨v, w, rfl, rv, rw2⟩ := reps2 r1
    obtain ⟨p, vs, rfl, hp, rs⟩ := rv.tup_inv
    obtain ⟨p2, us, rfl, hp2, rs2⟩ := rw2.lst_inv
    have hl : (zipD ds es).length = min vs.length us.length := by simp [zipD, rs.length, rs2.length]
    refine ⟨p, p2, vs, us, rfl, seqT I1.same hp, I1.same.seq hp2, q _ _ cs1 G1 H1 e1 I1 ⟨fun i H' hi s => ?_, fun H' s => ⟨vs, us, seqT s hp, s.seq hp2, by omega, by omega, by omega⟩, fun i H' x H2 G2 cs2 d hd s I2 y => ?_⟩ h1⟩
    · have hi1 : i < vs.length := by omega
      have hi2 : i < us.length := by omega
      exact ⟨vs, us, vs[i], us[i], seqT s hp, s.seq hp2, List.getElem?_eq_getElem hi1, List.getElem?_eq_getElem hi2⟩
    · obtain ⟨T, x1, y1, rfl, nT, rfl, g1, g2⟩ := y
      obtain ⟨d1, hd1, rd1⟩ := rs.getV (g1 vs (seqT (s.trans I2.same) hp))
      obtain ⟨d2, hd2, rd2⟩ := rs2.getV (g2 us ((s.trans I2.same).seq hp2))
      obtain ⟨x', y', a1, a2, rfl⟩ := zipD_get hd
      rw [hd1] at a1
      rw [hd2] at a2
      cases a1
      cases a2
      have sn := same_new (o := .tup [x1, y1]) (I2.same.free nT)
      exact ⟨_, sn, I2.fresh nT, .tup (.inl (.inl upd_same)) (.cons ((rd1.mono s).mono sn) (.cons ((rd2.mono s).mono sn) .nil))⟩
def rSplit : V → List V → Hp → VK → Prop := fun x xs H Q => ∃ a b, x = .str a ∧ xs = [.str b] ∧ (b.length == 0) = false ∧ a.length + 2 ≤ sizeLine ∧ rNewStrs (Txt.split a b) H Q
theorem er_split {R : RK} {to te : TE} (h : Er K to Δ cs fun x cs1 => ∃ a, x = .str a ∧ Er K te Δ cs1 fun y cs2 => ∃ b, y = .str b ∧ (b.length == 0) = false ∧ a.length + 2 ≤ sizeLine ∧ R (.lst ((Txt.split a b).map D.str)) cs2) : Er K (tM1 rSplit to te) Δ cs R := fun σ G H Q E I q =>
  h σ G H _ E I fun v x cs1 G1 H1 e1 I1 r1 ⟨a, ex, h1⟩ => by
    subst ex
    have ev := r1.raw_inv
    subst ev
    refine ⟨⟨a, rfl⟩, h1 σ G1 H1 _ (E.mono e1) I1 fun w y cs2 G2 H2 e2 I2 r2 ⟨b, ey, hb, ha, h2⟩ => ?_⟩
    subst ey
    have ew := r2.raw_inv
    subst ew
    refine ⟨a, b, rfl, rfl, hb, ha, fun p n => ?_⟩
    have n' := I2.same.free n
    have rr : Reps K G2 ((Txt.split a b).map V.str) ((Txt.split a b).map D.str) := by
      rw [show (Txt.split a b).map D.str = ((Txt.split a b).map V.str).map D.raw by rw [List.map_map]; rfl]
      exact Reps.of_raws _
    exact q (.ref p) _ cs2 _ _ ((e1.trans e2).trans (same_new n')) (I2.fresh n) (.lst upd_same (rr.mono (same_new n'))) h2
theorem kpi_zip {X : Cx} {e e2 : Expr} {p pos tpos : Pos} {elts : List Expr} {kk : Nat} (hK : X.K = K) (hg : Gl X "zip") (hm : X.mg "zip" = none) (ha : PA X [e, e2] ta)
    (hs : starEach [e, e2] X.env = (false, eval e X.env) :: starEach [e2] X.env := by rfl) (hpl : (backTo pos (starEach [e2] X.env)).any (·.1) = false := by rfl) :
    PI X (.Tuple elts kk tpos) (.Call (.Name "zip" p) [e, e2] [] pos) (iZip K ta) := by subst hK; exact pi_zip hg hm ha hs hpl
theorem ei_zipL {R : RsK} (h : Ea K ta Δ cs fun xs cs1 => ∃ ds es, xs = [.lst ds, .lst es] ∧ R (zipD ds es) cs1) : Ei K (iZip K ta) Δ cs R := fun σ G H Rr E I q =>
  h σ G H _ E I fun ws xs cs1 G1 H1 e1 I1 r1 ⟨ds, es, ed, h1⟩ => by
    subst ed
    obtain ⟨v, w, rfl, rv, rw2⟩ := reps2 r1
    obtain ⟨p, vs, rfl, hp, rs⟩ := rv.lst_inv
    obtain ⟨p2, us, rfl, hp2, rs2⟩ := rw2.lst_inv
    have hl : (zipD ds es).length = min vs.length us.length := by simp [zipD, rs.length, rs2.length]
    refine ⟨p, p2, vs, us, rfl, I1.same.seq hp, I1.same.seq hp2, q _ _ cs1 G1 H1 e1 I1 ⟨fun i H' hi s => ?_, fun H' s => ⟨vs, us, s.seq hp, s.seq hp2, by omega⟩, fun i H' x H2 G2 cs2 d hd s I2 y => ?_⟩ h1⟩
    · have hi1 : i < vs.length := by omega
      have hi2 : i < us.length := by omega
      exact ⟨vs, us, vs[i], us[i], s.seq hp, s.seq hp2, List.getElem?_eq_getElem hi1, List.getElem?_eq_getElem hi2⟩
    · obtain ⟨T, x1, y1, rfl, nT, rfl, g1, g2⟩ := y
      obtain ⟨d1, hd1, rd1⟩ := rs.getV (g1 vs ((s.trans I2.same).seq hp))
      obtain ⟨d2, hd2, rd2⟩ := rs2.getV (g2 us ((s.trans I2.same).seq hp2))
      obtain ⟨x', y', a1, a2, rfl⟩ := zipD_get hd
      rw [hd1] at a1
      rw [hd2] at a2
      cases a1
      cases a2
      have sn := same_new (o := .tup [x1, y1]) (I2.same.free nT)
      exact ⟨_, sn, I2.fresh nT, .tup (.inl (.inl upd_same)) (.cons ((rd1.mono s).mono sn) (.cons ((rd2.mono s).mono sn) .nil))⟩
theorem er_listRg {R : RK} {te : TE} (h : Er K te Δ cs fun x cs1 => ∃ n : Nat, x = .int n ∧ n ≤ 100000 ∧ R (.lst (rangeD n)) cs1) : Er K (tLstRg (tRg1 te)) Δ cs R := fun σ G H Q E I q =>
  h σ G H _ E I fun v x cs1 G1 H1 e1 I1 r1 ⟨n, ex, hn, h1⟩ => by
    subst ex
    refine ⟨(n : Int), r1.raw_inv, RgOk.of_le (by omega) (by omega) (by omega) (by omega), fun p hp => ?_⟩
    have n' := I1.same.free hp
    have e : rgV 0 (n : Int) = (List.range n).map fun (i : Nat) => V.int (i : Int) := by
      unfold rgV
      rw [show ((n : Int) - 0).toNat = n by omega]
      refine List.map_congr_left fun i _ => ?_
      rw [show (0 : Int) + (i : Nat) = (i : Int) by omega]
    have rr : Reps K G1 (rgV 0 (n : Int)) (rangeD n) := by
      rw [e, show rangeD n = ((List.range n).map fun (i : Nat) => V.int (i : Int)).map D.raw by unfold rangeD; rw [List.map_map]; rfl]
      exact Reps.of_raws _
    exact q (.ref p) _ cs1 _ _ (e1.trans (same_new n')) (I1.fresh hp) (.lst upd_same (rr.mono (same_new n'))) h1
end
end L3

/-! L3z -/
set_option maxHeartbeats 4000000
namespace L3
open PySem PySem.W PySem.Spec PyProof.Rows L2
/-! ### isinstance of own objects and built-in classes; values of either sort -/
theorem kit_bi {K : PySem.W.Frag} {C : Addr} {b : Bool} {T : String} (hm : kitMeta T = true) (e : subIn K (.ref C) (.type T) = some b) : kitOne K (.ref C) (.type T) = some b := by
  unfold kitOne
  rw [if_neg (fun z => by cases (show Value.ref C = Value.type T from beq_iff_eq.mp z))]
  unfold kitCls
  show (if kitMeta T = true then subIn K (.ref C) (.type T) else none) = _
  rw [if_pos hm]
  exact e
structure OwnTy (K : PySem.W.Frag) (C : Addr) : Prop where
  isi : IsiC K C
  ns : subIn K (.ref C) (.type "str") = some false
  nl : subIn K (.ref C) (.type "list") = some false
  nt : subIn K (.ref C) (.type "tuple") = some false
inductive TyW (K : PySem.W.Frag) (d : D) : Prop where
  | bi (n : String) (h : TyD K d n) : TyW K d
  | own (C : Addr) (ns : List Str) (xs : List D) (e : d = .obj C ns xs) (h : OwnTy K C) : TyW K d
section
variable {K : PySem.W.Frag} {Δ : Env} {cs : Cells} {R : RK} {d : D} {te : TE}
theorem oa_isiO {C : Addr} {ns : List Str} {xs : List D} {c : String} {b : Bool} (E : IsiC K C) (hk : kitOne K (.ref C) (.type c) = some b) (h : R (.bl b) cs) : Oa K (rIsi K) [.obj C ns xs, .raw (.ty c)] cs R := fun vs G H Q r I q => by
  obtain ⟨v, w, rfl, rv, rw'⟩ := reps2 r
  obtain ⟨p, dx, fs, rfl, hp, _⟩ := rv.obj_inv
  rw [rw'.raw_inv]
  exact ⟨.ref p, .ty c, .ref C, .type c, b, rfl, .ty c, .base (.ins (I.same _ _ hp) E.cl E.ha E.hn E.ht E.hm), hk, q.now I (.raw _) h⟩
theorem oa_isStrW (t : TyW K d) (h : R (.bl (isStrD d)) cs) : Oa K (rIsi K) [d, .raw (.ty "str")] cs R := by
  cases t with
  | bi n ty => exact oa_isStr ty h
  | own C ns xs e o =>
    subst e
    exact oa_isiO o.isi (kit_bi (by decide +kernel) o.ns) h
theorem er_isSeqW (h : Er K te Δ cs fun d cs1 => TyW K d ∧ R (.bl (isListD d || isTupD d)) cs1) : Er K (tCB (rIsiT K) (tCons te (tCons (tTup (tCons (tC (.ty "list")) (tCons (tC (.ty "tuple")) tNil))) tNil))) Δ cs R := fun σ G H Q E I q =>
  h σ G H _ E I fun v d cs1 G1 H1 e1 I1 r1 ⟨tw, hR⟩ => by
    cases tw with
    | bi n ty =>
      refine ⟨by show 2 ≤ sizeLine; decide, fun p np => ?_⟩
      have n' := I1.same.free np
      refine ⟨v, p, [.ty "list", .ty "tuple"], _, [.type "list", .type "tuple"], isListD d || isTupD d, rfl, upd_same, .cons (.ty "list") (.cons (.ty "tuple") .nil), ty.tyx r1 (I1.same.trans (same_new np)), ?_, (q.mono e1) _ (.bl (isListD d || isTupD d)) cs1 _ _ (same_new (o := .tup [.ty "list", .ty "tuple"]) n') (I1.fresh np) (.raw _) hR⟩
      refine kitAny_cons (kit_ty (kit_list ty)) (fun e => ?_) (fun e => by rw [e]; rfl)
      rw [e, Bool.false_or]
      refine kitAny_cons (kit_ty (kit_tup ty)) (fun e => ?_) (fun e => e)
      rw [e]
      exact kitAny_nil
    | own C ns xs e o =>
      subst e
      obtain ⟨p0, dx, fs, rfl, hp0, _⟩ := id r1.obj_inv
      refine ⟨by show 2 ≤ sizeLine; decide, fun p n => ?_⟩
      have n' := I1.same.free n
      refine ⟨.ref p0, p, [.ty "list", .ty "tuple"], _, [.type "list", .type "tuple"], false, rfl, upd_same, .cons (.ty _) (.cons (.ty _) .nil), .base (.ins ((I1.same.trans (same_new n)) _ _ hp0) o.isi.cl o.isi.ha o.isi.hn o.isi.ht o.isi.hm), ?_, (q.mono e1) (.bl false) (.bl false) cs1 _ _ (same_new (o := .tup [.ty "list", .ty "tuple"]) n') (I1.fresh n) (.raw _) hR⟩
      exact kitAny_cons (kit_bi (b := false) (by decide +kernel) o.nl) (fun _ => kitAny_cons (kit_bi (b := false) (by decide +kernel) o.nt) (fun _ => kitAny_nil) (fun e => nomatch e)) (fun e => nomatch e)
/-! ### xs[i] of a list or a tuple -/
def rIxA (K : PySem.W.Frag) : R2 := fun x y H Q => rIxL K x y H Q ∨ rIxT K x y H Q
theorem ix_any {X : Cx} (hK : X.K = K) : IxR X (rIxA K) := by
  subst hK
  intro va sl pins s σ H x y v u Q I rx ry h e
  rcases h with h | h
  · exact kix_list rfl va sl pins s σ H x y v u Q I rx ry h e
  · exact kix_tup rfl va sl pins s σ H x y v u Q I rx ry h e
theorem o2_ixAL {ds : List D} {i : Int} (ha : atI ds i = some d) (h : R d cs) : O2 K (rIxA K) (.lst ds) (.int i) cs R := fun v w G H Q rv rw' I q => .inl (o2_ixL ha h v w G H Q rv rw' I q)
theorem o2_ixAT {ds : List D} {i : Int} (ha : atI ds i = some d) (h : R d cs) : O2 K (rIxA K) (.tup ds) (.int i) cs R := fun v w G H Q rv rw' I q => .inr (o2_ixT ha h v w G H Q rv rw' I q)
end
end L3

/-! L4a -/
set_option maxHeartbeats 4000000
namespace L3
open PySem PySem.Spec PyProof.Rows L2
section
variable {K : PySem.W.Frag} {Δ : Env} {cs : Cells} {A : AE} {C : Addr} {m : Str} {F : Tr} {ta : TE} {t : TA} {i j : Nat} {c : Value} {ts : Addr → Value → Option Addr → TS} {Wo : WX}
/-- try: o.m(e, ..) -/
theorem xs_tryMethD (h : Er K ta Δ cs fun x cs1 => ∃ ns ds, x = .obj C ns ds ∧ m ∉ ns ∧ Ea K t Δ cs1 fun xs cs2 => F (x :: xs) cs2 (fun _ cs' => A.nx Δ cs') (SuiteX K A i c ts Δ)) :
    Xs K (fun D σ H => tDrop (tMethW C m (spA K F) (WE (wAs K c i ts Wo D)) ta t) D σ H) A Δ cs := fun σ G H D Ev I q =>
  h σ G H _ Ev I fun v x cs1 G1 H1 e1 I1 r1 ⟨ns, ds, ex, hm, h1⟩ => by
    subst ex
    obtain ⟨p, dx, fs, rfl, hp, hn, rs⟩ := id r1.obj_inv
    refine ⟨p, dx, fs, rfl, I1.same _ _ hp, lookup_none (by rw [hn]; exact hm), ?_⟩
    refine h1 σ G1 H1 _ (Ev.mono e1) I1 fun vs xs cs2 G2 H2 e2 I2 r2 h2 => ⟨G2, cs2, _, _, _, I2, .cons (r1.mono e2) r2, h2, fun v d cs' G' H' e I' r hd => ?_, suiteX (Ev.mono (e1.trans e2)) (q.mono (e1.trans e2))⟩
    exact q.nx σ Δ cs' G' H' ((e1.trans e2).trans e) (Ev.mono ((e1.trans e2).trans e)) I' hd
/-- try: x = o.m(e, ..) -/
theorem xs_tryMethX (h : Er K ta Δ cs fun x cs1 => ∃ ns ds, x = .obj C ns ds ∧ m ∉ ns ∧ Ea K t Δ cs1 fun xs cs2 => F (x :: xs) cs2 (fun d cs' => A.nx (Δ.set j (some d)) cs') (SuiteX K A i c ts Δ)) :
    Xs K (fun D σ H => tAsg (tMethW C m (spA K F) (WE (wAs K c i ts Wo D)) ta t) (gName j) D σ H) A Δ cs := fun σ G H D Ev I q =>
  h σ G H _ Ev I fun v x cs1 G1 H1 e1 I1 r1 ⟨ns, ds, ex, hm, h1⟩ => by
    subst ex
    obtain ⟨p, dx, fs, rfl, hp, hn, rs⟩ := id r1.obj_inv
    refine ⟨p, dx, fs, rfl, I1.same _ _ hp, lookup_none (by rw [hn]; exact hm), ?_⟩
    refine h1 σ G1 H1 _ (Ev.mono e1) I1 fun vs xs cs2 G2 H2 e2 I2 r2 h2 => ⟨G2, cs2, _, _, _, I2, .cons (r1.mono e2) r2, h2, fun v d cs' G' H' e I' r hd => ?_, suiteX (Ev.mono (e1.trans e2)) (q.mono (e1.trans e2))⟩
    exact q.nx _ _ cs' G' H' ((e1.trans e2).trans e) ((Ev.mono ((e1.trans e2).trans e)).set r j) I' hd
end
end L3

/-! k37 -/
set_option autoImplicit false
namespace Law
open PySem L2 L3
/-! ### the text by places -/
def top (i : Nat) : Stmt := PySem.Challenge.pw_notchsafe_k37_check_rules_refused.main.body.getD i (.Pass ⟨0, 0, 0, 0⟩)
abbrev s_InvalidRule___init__ : Stmt := inClass (top 5) 0
abbrev s_is_sequence : Stmt := top 9
abbrev s_is_stick : Stmt := top 10
abbrev s_first_misfit : Stmt := top 13
abbrev s_CheckRule___init__ : Stmt := inClass (top 12) 0
abbrev s_CheckRule_put : Stmt := inClass (top 12) 1
abbrev s__law_deal : Stmt := top 21
abbrev s__law_draw : Stmt := top 22
abbrev s__law_pick : Stmt := top 23
abbrev s__law_stick : Stmt := top 24
abbrev s__law_near : Stmt := top 25
abbrev s__law_rule : Stmt := top 15
abbrev s__law_any : Stmt := top 16
abbrev s__law_is_stick : Stmt := top 17
abbrev s__law_due : Stmt := top 18
abbrev s__law_refused : Stmt := top 19
abbrev s__law_unput : Stmt := top 20
abbrev s_law : Stmt := top 26
/-! ### what stands behind the top -/
structure Txt (K : PySem.W.Frag) (mg : Str → Option Value) where
  n_abs : mg "abs" = none
  n_enumerate : mg "enumerate" = none
  n_int : mg "int" = none
  n_isinstance : mg "isinstance" = none
  n_len : mg "len" = none
  n_list : mg "list" = none
  n_max : mg "max" = none
  n_min : mg "min" = none
  n_range : mg "range" = none
  n_repr : mg "repr" = none
  n_str : mg "str" = none
  n_tuple : mg "tuple" = none
  t_PLAIN : Tok
  g_PLAIN : mg "PLAIN" = some (.str "." t_PLAIN)
  t_SIGNS : Tok
  g_SIGNS : mg "SIGNS" = some (.str ".x" t_SIGNS)
  C_InvalidRule : Addr
  g_InvalidRule : mg "InvalidRule" = some (.ref C_InvalidRule)
  C_InvalidStick : Addr
  g_InvalidStick : mg "InvalidStick" = some (.ref C_InvalidStick)
  C_InvalidText : Addr
  g_InvalidText : mg "InvalidText" = some (.ref C_InvalidText)
  C_StickError : Addr
  g_StickError : mg "StickError" = some (.ref C_StickError)
  e_InvalidRule : ExcC K C_InvalidRule
  te_InvalidRule : PySem.W.exmOne K (.ref C_InvalidRule) (.ref C_InvalidRule) = some true
  o_InvalidRule : OexC K C_InvalidRule
  xf_InvalidRule : XfC K C_InvalidRule
  nf_InvalidRule : PySem.W.findIn K (.ref C_InvalidRule) "at" = some none
  e_InvalidStick : ExcC K C_InvalidStick
  te_InvalidStick : PySem.W.exmOne K (.ref C_InvalidStick) (.ref C_InvalidStick) = some true
  x_InvalidStick : PySem.W.excIn K C_InvalidStick [.type "ValueError", .type "Exception", .type "BaseException", .type "object"] "ValueError.__new__" = true
  k_InvalidStick : PySem.W.keepIn K (.ref C_InvalidStick) = true
  b_InvalidStick : PySem.W.subIn K (.ref C_InvalidStick) (.type "BaseException") = some true
  t_InvalidStick : PySem.W.typeIn K (.ref C_InvalidStick) = some (.type "type")
  kx_InvalidRule_StickError : PySem.W.kitOne K (.ref C_InvalidRule) (.ref C_StickError) = some true
  kx_InvalidRule_InvalidText : PySem.W.kitOne K (.ref C_InvalidRule) (.ref C_InvalidText) = some false
  kx_InvalidStick_StickError : PySem.W.kitOne K (.ref C_InvalidStick) (.ref C_StickError) = some true
  C_CheckRule : Addr
  g_CheckRule : mg "CheckRule" = some (.ref C_CheckRule)
  cl_CheckRule : Cls K C_CheckRule
  no_CheckRule_checks : NoAttr K C_CheckRule "checks"
  isi_CheckRule : IsiC K C_CheckRule
  ow_CheckRule : OwnTy K C_CheckRule
  a_InvalidRule___init__ : Addr
  d_InvalidRule___init__ : FuncData
  F_InvalidRule___init__ : Fun K "__init__" "InvalidRule.__init__" s_InvalidRule___init__ a_InvalidRule___init__ d_InvalidRule___init__
  b_InvalidRule___init__ : Binds K d_InvalidRule___init__ ["self", "at"] []
  a_is_sequence : Addr
  d_is_sequence : FuncData
  F_is_sequence : Fun K "is_sequence" "is_sequence" s_is_sequence a_is_sequence d_is_sequence
  b_is_sequence : Binds K d_is_sequence ["value"] []
  g_is_sequence : mg "is_sequence" = some (.ref a_is_sequence)
  a_is_stick : Addr
  d_is_stick : FuncData
  F_is_stick : Fun K "is_stick" "is_stick" s_is_stick a_is_stick d_is_stick
  b_is_stick : Binds K d_is_stick ["value"] []
  g_is_stick : mg "is_stick" = some (.ref a_is_stick)
  a_first_misfit : Addr
  d_first_misfit : FuncData
  F_first_misfit : Fun K "first_misfit" "first_misfit" s_first_misfit a_first_misfit d_first_misfit
  b_first_misfit : Binds K d_first_misfit ["checks"] []
  g_first_misfit : mg "first_misfit" = some (.ref a_first_misfit)
  a_CheckRule___init__ : Addr
  d_CheckRule___init__ : FuncData
  F_CheckRule___init__ : FunD K "__init__" "CheckRule.__init__" (defArgs s_CheckRule___init__) (defBody s_CheckRule___init__) (defScope s_CheckRule___init__) [] [] a_CheckRule___init__ d_CheckRule___init__
  b_CheckRule___init__ : Binds K d_CheckRule___init__ ["self", "checks"] []
  mk_CheckRule : Mk K C_CheckRule a_CheckRule___init__
  a_CheckRule_put : Addr
  d_CheckRule_put : FuncData
  F_CheckRule_put : FunD K "put" "CheckRule.put" (defArgs s_CheckRule_put) (defBody s_CheckRule_put) (defScope s_CheckRule_put) [] [] a_CheckRule_put d_CheckRule_put
  b_CheckRule_put : Binds K d_CheckRule_put ["self", "stick"] []
  me_CheckRule_put : Meth K C_CheckRule "put" a_CheckRule_put
  a__law_deal : Addr
  d__law_deal : FuncData
  F__law_deal : Fun K "_law_deal" "_law_deal" s__law_deal a__law_deal d__law_deal
  b__law_deal : Binds K d__law_deal ["_law_script", "_law_base"] []
  g__law_deal : mg "_law_deal" = some (.ref a__law_deal)
  a__law_draw : Addr
  d__law_draw : FuncData
  F__law_draw : Fun K "_law_draw" "_law_draw" s__law_draw a__law_draw d__law_draw
  b__law_draw : Binds K d__law_draw ["_law_deal_here", "_law_bound"] []
  g__law_draw : mg "_law_draw" = some (.ref a__law_draw)
  a__law_pick : Addr
  d__law_pick : FuncData
  F__law_pick : Fun K "_law_pick" "_law_pick" s__law_pick a__law_pick d__law_pick
  b__law_pick : Binds K d__law_pick ["_law_deal_here", "_law_some"] []
  g__law_pick : mg "_law_pick" = some (.ref a__law_pick)
  a__law_stick : Addr
  d__law_stick : FuncData
  F__law_stick : Fun K "_law_stick" "_law_stick" s__law_stick a__law_stick d__law_stick
  b__law_stick : Binds K d__law_stick ["_law_deal_here", "_law_length"] []
  g__law_stick : mg "_law_stick" = some (.ref a__law_stick)
  a__law_near : Addr
  d__law_near : FuncData
  F__law_near : Fun K "_law_near" "_law_near" s__law_near a__law_near d__law_near
  b__law_near : Binds K d__law_near ["_law_deal_here", "_law_stick_here"] []
  g__law_near : mg "_law_near" = some (.ref a__law_near)
  a__law_rule : Addr
  d__law_rule : FuncData
  F__law_rule : Fun K "_law_rule" "_law_rule" s__law_rule a__law_rule d__law_rule
  b__law_rule : Binds K d__law_rule ["_law_deal_here", "_law_most", "_law_wide"] []
  g__law_rule : mg "_law_rule" = some (.ref a__law_rule)
  a__law_any : Addr
  d__law_any : FuncData
  F__law_any : Fun K "_law_any" "_law_any" s__law_any a__law_any d__law_any
  b__law_any : Binds K d__law_any ["_law_deal_here", "_law_deep", "_law_made"] []
  g__law_any : mg "_law_any" = some (.ref a__law_any)
  a__law_is_stick : Addr
  d__law_is_stick : FuncData
  F__law_is_stick : Fun K "_law_is_stick" "_law_is_stick" s__law_is_stick a__law_is_stick d__law_is_stick
  b__law_is_stick : Binds K d__law_is_stick ["_law_value"] []
  g__law_is_stick : mg "_law_is_stick" = some (.ref a__law_is_stick)
  a__law_due : Addr
  d__law_due : FuncData
  F__law_due : Fun K "_law_due" "_law_due" s__law_due a__law_due d__law_due
  b__law_due : Binds K d__law_due ["_law_value"] []
  g__law_due : mg "_law_due" = some (.ref a__law_due)
  a__law_refused : Addr
  d__law_refused : FuncData
  F__law_refused : Fun K "_law_refused" "_law_refused" s__law_refused a__law_refused d__law_refused
  b__law_refused : Binds K d__law_refused ["_law_value"] []
  g__law_refused : mg "_law_refused" = some (.ref a__law_refused)
  a__law_unput : Addr
  d__law_unput : FuncData
  F__law_unput : Fun K "_law_unput" "_law_unput" s__law_unput a__law_unput d__law_unput
  b__law_unput : Binds K d__law_unput ["_law_made", "_law_value"] []
  g__law_unput : mg "_law_unput" = some (.ref a__law_unput)
  a_law : Addr
  d_law : FuncData
  F_law : Fun K "law" "law" s_law a_law d_law
  b_law : Binds K d_law ["_law_script"] []
  g_law : mg "law" = some (.ref a_law)
  i_InvalidRule : PySem.W.findIn K (.ref C_InvalidRule) "__init__" = some (some (.ref a_InvalidRule___init__))
  ti_InvalidRule : PySem.W.typeIn K (.ref a_InvalidRule___init__) = some (.type "function")
local macro_rules | `(tactic| walk_at "e") => `(tactic| first
  | ((with_reducible refine er_var (d := ?dd) ?hv ?_); (case hv => rfl))
  | (with_reducible refine er_c ?_)
  | (with_reducible refine er_op ?_)
  | (with_reducible refine er_un ?_)
  | (with_reducible refine er_isSeq ?_)
  | (with_reducible refine er_sortedSet ?_)
  | (with_reducible refine er_join ?_)
  | (with_reducible refine er_slS ?_)
  | (with_reducible refine eo_none ?_)
  | (with_reducible refine eo_some ?_)
  | (with_reducible refine er_cb ?_)
  | (with_reducible refine ea_cons ?_)
  | (with_reducible refine ea_nil ?_)
  | (with_reducible refine er_andV ?_)
  | (with_reducible refine er_orV ?_)
  | (with_reducible refine er_notV ?_)
  | (with_reducible refine er_isN ?_)
  | (with_reducible refine er_notN ?_)
  | (with_reducible refine er_if ?_)
  | (with_reducible refine et_test ?_)
  | (with_reducible refine et_B ?_)
  | (with_reducible refine et_and ?_)
  | (with_reducible refine et_or ?_)
  | (with_reducible refine et_not ?_)
  | (with_reducible refine et_yes ?_)
  | (with_reducible refine er_tup ?_)
  | (with_reducible refine er_call ?_)
  | (with_reducible refine xs_seq ?_)
  | (with_reducible refine xs_ret ?_)
  | (with_reducible refine xs_if ?_)
  | (with_reducible refine xs_asg ?_)
  | (with_reducible refine xs_next ?_)
  | (with_reducible refine xs_drop ?_)
  | (with_reducible refine gg_name ?_)
  | (with_reducible refine o2_I0 ?_)
  | (with_reducible refine oa_isInt (by assumption) ?_)
  | (with_reducible refine oa_isBool (by assumption) ?_)
  | (with_reducible refine oa_isStr (by assumption) ?_)
  | (with_reducible refine oa_all ?_)
  | (with_reducible refine oa_lenL ?_)
  | (with_reducible refine oa_lenR ?_)
  | (with_reducible refine oa_lenT ?_)
  | (with_reducible refine oa_tupL ?_)
  | (with_reducible refine oa_max2 ?_)
  | (with_reducible refine oa_min2 ?_)
  | (with_reducible refine oa_abs ?_)
  | (with_reducible refine oa_intI ?_)
  | (with_reducible refine oa_intB ?_)
  | (with_reducible refine o2_isB ?_)
  | (with_reducible refine o2_notB ?_)
  | (with_reducible refine o2_eqI ?_)
  | (with_reducible refine o2_neI ?_)
  | (with_reducible refine o2_eqT ?_)
  | (with_reducible refine o2_neT ?_)
  | (with_reducible refine o2_eqB ?_)
  | (with_reducible refine o2_neB ?_)
  | (with_reducible refine o1_U ?_))
local macro_rules | `(tactic| walk_at "ev") => `(tactic| repeat (first | walk_at "e" | dsimp only))

abbrev boxC (p : Addr) (a b c : Int) : Addr × CO := (p, .lst [.int a, .int b, .int c])
def c_box : Tr := fun ds cs R _ => ∃ (ns : List Int) (k own : Int), ds = [.ro (ns.map D.int), .int k, .int own] ∧ 0 ≤ k ∧ k ≤ 1000 ∧ 0 ≤ own ∧ own ≤ 1000 ∧ cs = [] ∧ ∀ p a b c, 0 ≤ a → R (.raw (.ref p)) [boxC p a b c]
def c_take : Tr := fun ds cs R _ => ∃ (p : Addr) (a b c n : Int) (cs0 : Cells), ds = [.raw (.ref p), .int n] ∧ cs = boxC p a b c :: cs0 ∧ 0 ≤ a ∧ 0 < n ∧ n ≤ 1000000 ∧ ∀ r a' b' c', 0 ≤ r → r < n → 0 ≤ a' → R (.int r) (boxC p a' b' c' :: cs0)
def c_pick : Tr := fun ds cs R _ => ∃ (p : Addr) (a b c : Int) (cs0 : Cells) (xs : List D), ds = [.raw (.ref p), .lst xs] ∧ cs = boxC p a b c :: cs0 ∧ 0 ≤ a ∧ xs ≠ [] ∧ xs.length ≤ 1000 ∧ ∀ (i : Nat) (d : D) a' b' c', xs[i]? = some d → 0 ≤ a' → R d (boxC p a' b' c' :: cs0)

def c_law : Tr := fun ds cs R _ => ∃ ns : List Int, ds = [.ro (ns.map D.int)] ∧ ns.length ≤ 63 ∧ cs = [] ∧ ∀ cs', R (.bl true) cs'
theorem law_in (K : PySem.W.Frag) (H : Hp) (a : Addr) (ns : List Int) (hl : ns.length ≤ 63) (_ : Only H) (hS : SqL K H a (ns.map V.int)) : spA K c_law [.ref a] H (fun v _ => v = .bl true) fun _ _ _ => False := by
  refine ⟨H, [], [.ro (ns.map D.int)], fun d _ => d = .bl true, X0, Own.nil _ _ (Same.refl H), .cons (.ro hS ?_) .nil, ⟨ns, rfl, hl, rfl, fun _ => rfl⟩, fun v d cs' G' H' e I r k => ?_, fun cls d pl cs' G' H' e I r k => k⟩
  · rw [map_int]
    exact Reps.of_raws _
  · subst k
    exact r.raw_inv
theorem law_turns {N : Int} {ns : List Int} {w : Int} (hw : 1 ≤ w ∧ w ≤ 100) (e : N = (if (if (ns.length : Int) < w then (ns.length : Int) else w) > 1 then (if (ns.length : Int) < w then (ns.length : Int) else w) else 1)) : N ≤ w ∧ 1 ≤ N := by
  rw [e]
  split <;> split <;> omega
section
variable {K : PySem.W.Frag} {Δ : L3.Env} {cs : Cells} {R : RK} {A : AE} {c : TT} {u v w : TS}
theorem xs_guardP {P : Cells → Prop} (h : Et K c Δ cs fun b cs1 => b = false ∧ P cs1) (k : ∀ cs1, P cs1 → Xs K u A Δ cs1) : Xs K (tSeq (tIfS c v tNext) u) A Δ cs := by
  refine xs_seq (xs_if (et_mono h ?_))
  rintro b cs1 ⟨rfl, hp⟩
  exact ⟨fun e => absurd e Bool.false_ne_true, fun _ => xs_next (k cs1 hp)⟩
theorem xs_midP {M : L3.Env → Cells → Prop} (h : Xs K w { A with nx := M } Δ cs) (k : ∀ Δ cs, M Δ cs → A.nx Δ cs) : Xs K w A Δ cs := xs_mono (A := { A with nx := M }) (N' := A.nx) h k
theorem xs_endP {P : Cells → Prop} (h : Et K c Δ cs fun b cs1 => b = false ∧ P cs1) (k : ∀ cs1, P cs1 → A.nx Δ cs1) : Xs K (tIfS c v tNext) A Δ cs := by
  refine xs_if (et_mono h ?_)
  rintro b cs1 ⟨rfl, hp⟩
  exact ⟨fun e => absurd e Bool.false_ne_true, fun _ => xs_next (k cs1 hp)⟩
end
def isCountD : D → Bool
  | .raw (.int i) => decide (0 ≤ i)
  | _ => false
def c_is_count (K : PySem.W.Frag) : Tr := fun ds cs R _ => ∃ d n, ds = [d] ∧ TyD K d n ∧ R (.bl (isCountD d)) cs
def isStickD : D → Bool
  | .raw (.str s) => isStickS s
  | _ => false
def c_is_stick (K : PySem.W.Frag) : Tr := fun ds cs R _ => ∃ d n, ds = [d] ∧ TyD K d n ∧ (∀ s, d = .str s → s.length ≤ 1000) ∧ R (.bl (isStickD d)) cs

theorem small1000 {n : Nat} (h : n ≤ 1000) : n < sizeLine := by
  have : (1000 : Nat) < sizeLine := by decide
  omega
theorem small_line {n : Nat} (h : n ≤ 1000) : n ≤ sizeLine := Nat.le_of_lt (small1000 h)

theorem okl_stick {z : Str} (h : isStickS z = true) : N.okl (sgn z) = true := by
  unfold isStickS at h
  rw [Bool.and_eq_true] at h
  exact h.2
theorem count_x (z : Str) : Txt.count z "x" = (N.cn (sgn z) : Nat) := count_sgn z 120
theorem enumS_range (z : Str) : enumS z = (List.range (sgn z).length).map fun (i : Nat) => D.tup [.int i, .str ⟨#[(sgn z).getD i 0]⟩] := by
  refine List.ext_getElem? fun i => ?_
  unfold enumS signsD
  rw [List.getElem?_mapIdx, List.getElem?_map, List.getElem?_map]
  show Option.map _ (Option.map _ ((sgn z)[i]?)) = _
  by_cases h : i < (sgn z).length
  · rw [List.getElem?_range h, List.getElem?_eq_getElem h]
    show some (D.tup [.int i, .str ⟨#[(sgn z)[i]]⟩]) = some (D.tup [.int i, .str ⟨#[(sgn z).getD i 0]⟩])
    rw [List.getD_eq_getElem?_getD, List.getElem?_eq_getElem h]
    rfl
  · rw [List.getElem?_eq_none (by omega), List.getElem?_eq_none (by rw [List.length_range]; omega)]
    rfl
def fX : D → Bool
  | .tup [_, .raw (.str s)] => decide (s = "x")
  | _ => false
def mX (z : Str) : D → D
  | .tup [.raw (.int i), _] => .int (N.binom ((sgn z).length - i.toNat - 1) (N.cn ((sgn z).drop i.toNat)) : Nat)
  | d => d
theorem one_x (c : Nat) : decide ((⟨#[c]⟩ : Str) = "x") = decide (c = 120) := by
  refine dec_congr ⟨fun h => ?_, fun h => by rw [h]; rfl⟩
  have e : sgn ⟨#[c]⟩ = sgn "x" := by rw [h]
  have e2 : [c] = [120] := e
  exact List.head_eq_of_cons_eq e2
theorem numD (z : Str) : ((enumS z).filter fX).map (mX z) = ((N.numL (sgn z)).map fun (n : Nat) => (n : Int)).map D.int := by
  rw [enumS_range, List.filter_map, List.map_map]
  unfold N.numL
  rw [List.map_map, List.map_map]
  have e : (fX ∘ fun (i : Nat) => D.tup [.int i, .str ⟨#[(sgn z).getD i 0]⟩]) = fun i => decide ((sgn z).getD i 0 = 120) := by
    funext i
    exact one_x _
  rw [e]
  rfl
theorem sum_cast : ∀ l : List Nat, (l.map fun (n : Nat) => (n : Int)).sum = (l.sum : Nat)
  | [] => rfl
  | a :: r => by
    rw [List.map_cons, List.sum_cons, List.sum_cons, sum_cast r]
    omega
theorem sgn_dropX (z : Str) (k : Nat) : sgn (cutS z (some (k : Int)) none) = (sgn z).drop k := by
  show (z.cps.toList.drop (HT.sIx z.length 0 (some (k : Int)))).take (HT.sIx z.length z.length none - HT.sIx z.length 0 (some (k : Int))) = _
  rw [HT.sIx_none, HT.sIx_nat]
  show ((sgn z).drop (min k z.length)).take (z.length - min k z.length) = _
  rw [← sgn_len, List.take_of_length_le (by rw [List.length_drop]; omega)]
  by_cases h : k ≤ (sgn z).length
  · rw [Nat.min_eq_left h]
  · rw [Nat.min_eq_right (by omega), List.drop_of_length_le (Nat.le_refl _), List.drop_of_length_le (by omega)]
def c_number : Tr := fun ds cs R _ => ∃ z, ds = [.str z] ∧ isStickS z = true ∧ z.length ≤ 1000 ∧ R (.int (N.num (sgn z) : Nat)) cs
def c_stick_at : Tr := fun ds cs R _ => ∃ n k a : Nat, ds = [.int n, .int k, .int a] ∧ n ≤ 400 ∧ k ≤ 400 ∧ a < N.binom n k ∧ ∀ z, sgn z = N.stk n k a → R (.str z) cs
def sg (c : Nat) : Str := ⟨#[c]⟩
theorem sgn_joinG : ∀ (l : List Nat), sgn (Txt.join "" (l.map sg)) = l := by
  intro l
  rw [TL.join_eq]
  show TL.tl _ = l
  rw [TL.tl_join, List.map_map]
  have : ∀ l : List Nat, TL.joinL (TL.tl "") (l.map ((TL.tl) ∘ sg)) = l := by
    intro l
    induction l with
    | nil => rfl
    | cons a r ih =>
      cases r with
      | nil => rfl
      | cons b r =>
        show [a] ++ ([] ++ TL.joinL (TL.tl "") ((b :: r).map ((TL.tl) ∘ sg))) = a :: b :: r
        rw [ih]
        rfl
  exact this l
theorem sum_sg : ∀ (l : List Nat), ((l.map sg).map (·.length)).sum = l.length
  | [] => rfl
  | a :: r => by
    have := sum_sg r
    rw [List.map_cons, List.map_cons, List.sum_cons, this]
    show 1 + r.length = r.length + 1
    omega

def NN (is : List Int) : Prop := (∀ i ∈ is, 0 ≤ i) ∧ is.length ≤ 1000
abbrev dealC (q p : Addr) (is : List Int) (b : Int) : Cells := [(q, .lst (is.map D.int)), (p, .lst [.raw (.ref q), .int b])]
def c_deal : Tr := fun ds cs R _ => ∃ (ns : List Int) (k : Int), ds = [.ro (ns.map D.int), .int k] ∧ ns.length ≤ 63 ∧ 0 ≤ k ∧ k ≤ 100 ∧ cs = [] ∧ ∀ q p is b, NN is → R (.raw (.ref p)) (dealC q p is b)
def c_draw : Tr := fun ds cs R _ => ∃ (q p : Addr) (is : List Int) (b n : Int) (cs0 : Cells), ds = [.raw (.ref p), .int n] ∧ cs = dealC q p is b ++ cs0 ∧ NN is ∧ 0 < n ∧ n ≤ 1000000 ∧ ∀ r is' b', 0 ≤ r → r < n → NN is' → R (.int r) (dealC q p is' b' ++ cs0)
def c_dpick : Tr := fun ds cs R _ => ∃ (q p : Addr) (is : List Int) (b : Int) (cs0 : Cells) (xs : List D), ds = [.raw (.ref p), .lst xs] ∧ cs = dealC q p is b ++ cs0 ∧ NN is ∧ xs ≠ [] ∧ xs.length ≤ 1000 ∧ ∀ (i : Nat) (d : D) is' b', xs[i]? = some d → NN is' → R d (dealC q p is' b' ++ cs0)
def c_dstick : Tr := fun ds cs R _ => ∃ (q p : Addr) (is : List Int) (b : Int) (n : Nat) (cs0 : Cells), ds = [.raw (.ref p), .int n] ∧ cs = dealC q p is b ++ cs0 ∧ NN is ∧ n ≤ 300 ∧ ∀ (z : Str) is' b', (sgn z).length = n → N.okl (sgn z) = true → NN is' → R (.str z) (dealC q p is' b' ++ cs0)
theorem cut_ints (ns : List Int) (l u : Option Int) : ∃ ms : List Int, cutD (ns.map D.int) l u = ms.map D.int ∧ ms.length ≤ ns.length := by
  refine ⟨(ns.drop (HT.sIx (ns.map D.int).length 0 l)).take (HT.sIx (ns.map D.int).length (ns.map D.int).length u - HT.sIx (ns.map D.int).length 0 l), ?_, ?_⟩
  · unfold cutD
    rw [List.map_take, List.map_drop]
  · exact Nat.le_trans (List.length_take_le' _ _) (by rw [List.length_drop]; omega)

def ckS (z : Str) : List Nat := N.ckl (sgn z)
def c_csize : Tr := fun ds cs R _ => ∃ n : Nat, ds = [.int n] ∧ 1 ≤ n ∧ n ≤ 1000 ∧ R (.int (N.csz n : Nat)) cs
def c_signs : Tr := fun ds cs R _ => ∃ m t : Nat, ds = [.int m, .int t] ∧ t ≤ 1000 ∧ ∀ y, sgn y = N.bits m t → R (.str y) cs
def c_places : Tr := fun ds cs R _ => ∃ n : Nat, ds = [.int n] ∧ 1 ≤ n ∧ n ≤ 1000 ∧ R (.int (N.csz n : Nat)) cs
def c_lchecked : Tr := fun ds cs R _ => ∃ z, ds = [.str z] ∧ isStickS z = true ∧ z.length ≤ 1000 ∧ ∀ y, sgn y = ckS z → R (.str y) cs
theorem bits_csz {n : Nat} (h : 1 ≤ n) : Builtin.Int.intBits (n : Int) = N.csz n := by
  unfold Builtin.Int.intBits N.csz
  rw [if_neg (by simp; omega)]
  rfl
theorem csz_le {n : Nat} (h : 1 ≤ n) (h2 : n ≤ 1000) : N.csz n ≤ 10 := by
  unfold N.csz
  have := (Nat.log2_lt (n := n) (k := 10) (by omega)).mpr (Nat.lt_of_le_of_lt h2 (by decide))
  omega
theorem count_p (z : Str) : Txt.count z "." = (N.pl (sgn z) : Nat) := count_sgn z 46
theorem stick_pos {z : Str} (h : isStickS z = true) : 1 ≤ z.length := by
  unfold isStickS at h
  rw [Bool.and_eq_true] at h
  have := sgn_len z
  cases hz : sgn z with
  | nil => rw [hz] at h; exact absurd h.1 (by decide)
  | cons a r =>
    rw [hz] at this
    have e : (a :: r).length = r.length + 1 := rfl
    omega
theorem okl_of_stick {z : Str} (h : isStickS z = true) : N.okl (sgn z) = true := by
  unfold isStickS at h
  rw [Bool.and_eq_true] at h
  exact h.2
theorem stick_of {z : Str} (h : 1 ≤ (sgn z).length) (h2 : N.okl (sgn z) = true) : isStickS z = true := by
  unfold isStickS
  have e : (sgn z).isEmpty = false := by
    cases hz : sgn z with
    | nil => rw [hz] at h; exact absurd h (by decide)
    | cons a r => rfl
  rw [e]
  exact h2
def c_is_seq (K : PySem.W.Frag) : Tr := fun ds cs R _ => ∃ d n, ds = [d] ∧ TyD K d n ∧ R (.bl (isListD d || isTupD d)) cs
def itemsD : D → List D
  | .lst xs => xs
  | .tup xs => xs
  | _ => []
def seekB (f : Nat → Bool) : Nat → Nat → Option Nat
  | 0, _ => none
  | n + 1, i => if f i then some i else seekB f n (i + 1)
theorem seekB_none {f : Nat → Bool} : ∀ (n i : Nat), seekB f n i = none → ∀ j, i ≤ j → j < i + n → f j = false
  | 0, i, _, j, h1, h2 => by omega
  | n + 1, i, h, j, h1, h2 => by
    unfold seekB at h
    by_cases hf : f i = true
    · rw [if_pos hf] at h
      cases h
    · rw [if_neg hf] at h
      by_cases e : j = i
      · rw [e]
        simpa using hf
      · exact seekB_none n (i + 1) h j (by omega) (by omega)
theorem seekB_some {f : Nat → Bool} {p : Nat} : ∀ (n i : Nat), seekB f n i = some p → f p = true ∧ ∀ j, i ≤ j → j < p → f j = false
  | 0, i, h => nomatch h
  | n + 1, i, h => by
    unfold seekB at h
    by_cases hf : f i = true
    · rw [if_pos hf] at h
      cases h
      exact ⟨hf, fun j h1 h2 => by omega⟩
    · rw [if_neg hf] at h
      obtain ⟨h1, h2⟩ := seekB_some n (i + 1) h
      refine ⟨h1, fun j h3 h4 => ?_⟩
      by_cases e : j = i
      · rw [e]
        simpa using hf
      · exact h2 j (by omega) h4

structure PV1 (K : PySem.W.Frag) (d : D) : Prop where
  ty : TyW K d
  len : ∀ s, d = .str s → s.length ≤ 300
  lay : ∀ s, d = .str s → PyData.canLay0 (.str s) = true
structure PW (K : PySem.W.Frag) (d : D) : Prop where
  one : PV1 K d
  items : ∀ x ∈ itemsD d, PV1 K x
  few : (itemsD d).length ≤ 40
def okAt (xs : List D) (i : Nat) : Bool := match (xs[i]? : Option D), (xs[0]? : Option D) with
  | some (D.raw (V.str z)), some (D.raw (V.str z0)) => isStickS z && decide (z.length = z0.length)
  | _, _ => false
def misfit (xs : List D) : Option Nat := seekB (fun i => !okAt xs i) xs.length 0
def dueO (d : D) : Option Nat := if (isListD d || isTupD d) = true then (if (itemsD d).isEmpty = true then some 0 else misfit (itemsD d)) else some 0
def oI (o : Option Nat) : Option Int := o.map fun p => (p : Int)
theorem due_no {d : D} (h : (isListD d || isTupD d) = false) : dueO d = some 0 := if_neg (by rw [h]; exact Bool.false_ne_true)
theorem seq_of {d : D} (h : (isListD d || isTupD d) = true) : d = .lst (itemsD d) ∨ d = .tup (itemsD d) := by
  match d, h with
  | .lst xs, _ => exact .inl rfl
  | .tup xs, _ => exact .inr rfl
theorem due_lst {xs : List D} (h : xs.isEmpty = false) : dueO (.lst xs) = misfit xs := by
  unfold dueO
  rw [if_pos (show (isListD (.lst xs) || isTupD (.lst xs)) = true from rfl)]
  exact if_neg (by rw [show itemsD (.lst xs) = xs from rfl, h]; exact Bool.false_ne_true)
theorem due_tup {xs : List D} (h : xs.isEmpty = false) : dueO (.tup xs) = misfit xs := by
  unfold dueO
  rw [if_pos (show (isListD (.tup xs) || isTupD (.tup xs)) = true from rfl)]
  exact if_neg (by rw [show itemsD (.tup xs) = xs from rfl, h]; exact Bool.false_ne_true)
theorem seekB_at {f : Nat → Bool} : ∀ (n i p : Nat), i ≤ p → p < i + n → f p = true → (∀ j, i ≤ j → j < p → f j = false) → seekB f n i = some p
  | 0, i, p, h1, h2, _, _ => by omega
  | n + 1, i, p, h1, h2, hf, hn => by
    unfold seekB
    by_cases e : i = p
    · rw [e, if_pos hf]
    · rw [if_neg (by rw [hn i (Nat.le_refl _) (by omega)]; exact Bool.false_ne_true)]
      exact seekB_at n (i + 1) p (by omega) (by omega) hf fun j h3 h4 => hn j (by omega) h4
theorem seekB_no {f : Nat → Bool} : ∀ (n i : Nat), (∀ j, i ≤ j → j < i + n → f j = false) → seekB f n i = none
  | 0, i, _ => rfl
  | n + 1, i, h => by
    unfold seekB
    rw [if_neg (by rw [h i (Nat.le_refl _) (by omega)]; exact Bool.false_ne_true)]
    exact seekB_no n (i + 1) fun j h1 h2 => h j (by omega) (by omega)
theorem mis_at {xs : List D} {i : Nat} (hi : i < xs.length) (hb : okAt xs i = false) (ho : ∀ j, j < i → okAt xs j = true) : misfit xs = some i :=
  seekB_at _ _ _ (Nat.zero_le _) (by omega) (by show (!okAt xs i) = true; rw [hb]; rfl) fun j _ hj => by show (!okAt xs j) = false; rw [ho j hj]; rfl
theorem mis_no {xs : List D} (ho : ∀ j, j < xs.length → okAt xs j = true) : misfit xs = none := seekB_no _ _ fun j _ hj => by show (!okAt xs j) = false; rw [ho j (by omega)]; rfl
theorem okAt_of {xs : List D} {i : Nat} (h : okAt xs i = true) : ∃ z z0, xs[i]? = some (.str z) ∧ xs[0]? = some (.str z0) ∧ isStickS z = true ∧ z.length = z0.length := by
  unfold okAt at h
  split at h
  · rename_i z z0 e1 e2
    rw [Bool.and_eq_true, decide_eq_true_iff] at h
    exact ⟨z, z0, e1, e2, h.1, h.2⟩
  · cases h
theorem okAt_eq {xs : List D} {i : Nat} {z z0 : Str} (e1 : xs[i]? = some (.str z)) (e2 : xs[0]? = some (.str z0)) : okAt xs i = (isStickS z && decide (z.length = z0.length)) := by
  unfold okAt
  rw [e1, e2]
theorem okAt_bad {xs : List D} {i : Nat} {x : D} (e1 : xs[i]? = some x) (h : isStickD x = false) : okAt xs i = false := by
  cases e : okAt xs i with
  | false => rfl
  | true =>
    obtain ⟨z, z0, a, _, b, _⟩ := okAt_of e
    rw [e1] at a
    cases a
    exact absurd ((show isStickD (.str z) = true from b).symm.trans h) (by decide)
theorem enumG {ds : List D} {i : Nat} {d : D} (h : (enumD ds)[i]? = some d) : ∃ x, ds[i]? = some x ∧ d = .tup [.int (i : Nat), x] := by
  unfold enumD at h
  rw [List.getElem?_mapIdx] at h
  cases e : ds[i]? with
  | none => rw [e] at h; cases h
  | some x =>
    rw [e] at h
    exact ⟨x, rfl, (Option.some.inj h).symm⟩
def sgnOk (c : Nat) : Bool := c == 46 || c == 120
def turn (c : Nat) : Nat := if c == 46 then 120 else 46

structure Dr (n : Nat) (z : Str) : Prop where
  len : (sgn z).length = n
  ok : (sgn z).all sgnOk = true
theorem Dr.at {n : Nat} {z : Str} (h : Dr n z) {i : Nat} (hi : i < n) : (sgn z).getD i 0 = 46 ∨ (sgn z).getD i 0 = 120 := by
  have e : (sgn z)[i]? = some ((sgn z)[i]'(by rw [h.len]; exact hi)) := List.getElem?_eq_getElem _
  have := List.all_eq_true.mp h.ok _ (List.mem_of_getElem? e)
  rw [List.getD_eq_getElem?_getD, e]
  simpa [sgnOk] using this
theorem Dr.get {n : Nat} {z : Str} (h : Dr n z) {i : Nat} (hi : i < n) : (sgn z)[i]? = some ((sgn z).getD i 0) := by
  have e : (sgn z)[i]? = some ((sgn z)[i]'(by rw [h.len]; exact hi)) := List.getElem?_eq_getElem _
  rw [List.getD_eq_getElem?_getD, e]
  rfl

structure RuleOk (cks : List Str) (w : Nat) : Prop where
  ne : 1 ≤ cks.length
  le : cks.length ≤ 20
  w1 : 1 ≤ w
  w2 : w ≤ 20
  each : ∀ c ∈ cks, Dr w c
abbrev cl (cks : List Str) : List (List Nat) := cks.map sgn
abbrev ruleD {K : PySem.W.Frag} {mg : Str → Option Value} (T : Txt K mg) (cks : List Str) : D := .obj T.C_CheckRule ["checks"] [.tup (cks.map D.str)]
theorem strs_get {cks : List Str} {i : Nat} {d : D} (h : (cks.map D.str)[i]? = some d) : ∃ c, cks[i]? = some c ∧ d = .str c := by
  rw [List.getElem?_map] at h
  cases e : cks[i]? with
  | none => rw [e] at h; cases h
  | some c => rw [e] at h; cases h; exact ⟨c, rfl, rfl⟩
theorem RuleOk.at {cks : List Str} {w i : Nat} {c : Str} (h : RuleOk cks w) (e : cks[i]? = some c) : Dr w c := h.each c (List.mem_of_getElem? e)
theorem RuleOk.stick {cks : List Str} {w i : Nat} {c : Str} (h : RuleOk cks w) (e : cks[i]? = some c) : isStickS c = true ∧ c.length = w := by
  have d := h.at e
  have := h.w1
  have lw : c.length = w := by rw [← sgn_len, d.len]
  refine ⟨?_, lw⟩
  unfold isStickS
  have e0 : (sgn c).isEmpty = false := by
    cases hz : sgn c with
    | nil => have := d.len; rw [hz] at this; have e1 : ([] : List Nat).length = 0 := rfl; omega
    | cons a r => rfl
  rw [e0]
  exact d.ok
theorem ck_at {cks : List Str} {i : Nat} {c : Str} (h : cks[i % cks.length]? = some c) : N.ck (cl cks) i = sgn c := by
  unfold N.ck
  rw [List.length_map, List.getD_eq_getElem?_getD, List.getElem?_map, h]
  rfl

theorem Dr.sz {n : Nat} {z : Str} (h : Dr n z) : z.length = n := by rw [← sgn_len, h.len]
def c_seqW (K : PySem.W.Frag) : Tr := fun ds cs R _ => ∃ d, ds = [d] ∧ TyW K d ∧ R (.bl (isListD d || isTupD d)) cs
def c_stickW (K : PySem.W.Frag) : Tr := fun ds cs R _ => ∃ d, ds = [d] ∧ PV1 K d ∧ R (.bl (isStickD d)) cs
def c_misW (K : PySem.W.Frag) : Tr := fun ds cs R _ => ∃ d, ds = [d] ∧ PW K d ∧ R (optD (oI (dueO d))) cs
section
variable {P : Program} {w : World} {K : PySem.W.Frag} {mg : Str → Option Value} {base : Heap}
theorem sc_InvalidRule___init__ : FnScope ["self", "at"] ["self", "at"] (defScope s_InvalidRule___init__) := ⟨rfl, rfl, rfl, by decide +kernel, rfl, by decide +kernel, by decide +kernel⟩
theorem ok_InvalidRule___init__ (T : Txt K mg) : FnOk P w K mg base CX0 1 T.a_InvalidRule___init__ T.d_InvalidRule___init__ ["self", "at"] (spErr T.C_InvalidRule "at") := by
  refine T.F_InvalidRule___init__.ok sc_InvalidRule___init__ (spErr_len _ _) (fun cdv A outer s H vs Q E hr h => ?_)
  refine ⟨_, pss_one (ps_ost (pv 0) (pv 1)), ?_⟩
  obtain ⟨a, v, rfl, ha, k⟩ := h
  exact ⟨v, rfl, .ref a, rfl, a, T.C_InvalidRule, rfl, T.o_InvalidRule, T.nf_InvalidRule, .inl ⟨ha, fun dx n ne => k dx n ne⟩⟩
theorem sc_is_sequence : FnScope ["value"] ["value"] (defScope s_is_sequence) := ⟨rfl, rfl, rfl, by decide +kernel, rfl, by decide +kernel, by decide +kernel⟩
set_option maxHeartbeats 4000000 in
theorem ok_is_sequence (T : Txt K mg) : FnOk P w K mg base CX0 1 T.a_is_sequence T.d_is_sequence ["value"] (spA K (c_seqW K)) := by
  refine T.F_is_sequence.ok sc_is_sequence (spA_len (F := (c_seqW K)) (by rintro ds cs R X ⟨_, rfl, _⟩; rfl)) (fun cdv A outer s H vs Q E hr h => ?_)
  have hu := hu_of hr
  refine ⟨_, (pss_one (ps_ret (pe_callB (kcall_isiT (K := K) rfl) (by rfl) T.n_isinstance (by decide +kernel) (pa_cons (pv 0) (pa_cons (pe_tup (pa_cons (pe_bltn (v := .ty "list") (by rfl) T.n_list (by decide +kernel) rfl) (pa_cons (pe_bltn (v := .ty "tuple") (by rfl) T.n_tuple (by decide +kernel) rfl) pa_nil))) pa_nil))))), ?_⟩
  refine enter h (fun ds cs R X G f xq => ?_)
  clear h xq
  try dsimp only [cxOf, Cx.nox, Cx.wish]
  obtain ⟨d, rfl, tw, kk⟩ := f
  show Xs K _ _ [some d] cs
  refine xs_ret (er_isSeqW (er_var rfl ⟨tw, cs.length, ?_⟩))
  rw [List.take_length]
  exact kk
theorem sc_is_stick : FnScope ["value"] ["value"] (defScope s_is_stick) := ⟨rfl, rfl, rfl, by decide +kernel, rfl, by decide +kernel, by decide +kernel⟩
set_option maxHeartbeats 4000000 in
theorem ok_is_stick (T : Txt K mg) : FnOk P w K mg base CX0 1 T.a_is_stick T.d_is_stick ["value"] (spA K (c_stickW K)) := by
  refine T.F_is_stick.ok sc_is_stick (spA_len (F := (c_stickW K)) (by rintro ds cs R X ⟨_, rfl, _⟩; rfl)) (fun cdv A outer s H vs Q E hr h => ?_)
  have hu := hu_of hr
  refine ⟨_, (pss_one (ps_ret (pe_and (pe_callB (kcall_isi (K := K) rfl) (by rfl) T.n_isinstance (by decide +kernel) (pa_cons (pv 0) (pa_cons (pe_bltn (v := .ty "str") (by rfl) T.n_str (by decide +kernel) rfl) pa_nil))) (pe_and (pe_cmpR op_ne (pv 0) pe_str (nomark _)) (pe_one (pe_cmpR op_eq (pe_bm PySem.F.plainAttrs_str PySem.F.slot_str_strip PySem.F.type_str_strip mt_stripChars (pv 0) (pa_cons (pe_glob (v := .str ".x") rfl T.g_SIGNS ⟨_, rfl⟩) pa_nil)) pe_str (nomark _))))))), ?_⟩
  refine enter h (fun ds cs R X G f xq => ?_)
  clear h xq
  try dsimp only [cxOf, Cx.nox, Cx.wish]
  obtain ⟨d, rfl, pv, k⟩ := f
  have hl : ∀ s, d = .str s → s.length ≤ 1000 := fun s e => Nat.le_trans (pv.len s e) (by decide)
  rcases pv.ty with ⟨n, ty⟩ | ⟨C, ns, xs, rfl, ow⟩
  rotate_left
  · show Xs K _ _ [some (.obj C ns xs)] cs
    refine xs_ret (er_andV (er_cb (ea_cons (er_var rfl (ea_cons (er_c (ea_nil ?_)))))))
    refine oa_isStrW (.own C ns xs rfl ow) ?_
    refine lv_bool (fun h => absurd (show false = true from h) Bool.false_ne_true) (fun _ => ⟨cs.length, ?_⟩)
    rw [List.take_length]
    exact k
  show Xs K _ _ [some d] cs
  walk_at "ev"
  refine lv_bool (fun h1 => ?_) (fun h1 => ⟨cs.length, ?_⟩)
  · obtain ⟨z, rfl⟩ := str_of h1
    have hz := hl z rfl
    walk_at "ev"
    refine lv_bool (fun h2 => ?_) (fun h2 => ⟨cs.length, ?_⟩)
    · walk_at "ev"
      refine er_bmS ?_
      walk_at "ev"
      refine lv_str ?_
      walk_at "ev"
      intro vs G0 H0 Q0 r0 I0 q0
      have ev : vs = [V.str ".x"] := Reps.raws (ws := [V.str ".x"]) r0
      subst ev
      refine ⟨z, ".x", rfl, rfl, small_line hz, q0.now I0 (.raw _) ?_⟩
      walk_at "ev"
      refine ⟨cs.length, ?_⟩
      rw [List.take_length, strip_eq]
      have e : isStickD (.str z) = (sgn z).all fun c => c == 46 || c == 120 := by
        show (!(sgn z).isEmpty && _) = _
        have hne : (sgn z).isEmpty = false := by
          cases hz2 : sgn z with
          | nil =>
            rw [sgn_nil] at hz2
            rw [hz2] at h2
            exact absurd h2 (by decide)
          | cons a r => rfl
        rw [hne] <;> rfl
      rw [← e]
      exact k
    · rw [List.take_length]
      have e : isStickD (.str z) = false := by
        show (!(sgn z).isEmpty && _) = false
        have hz2 : z = "" := by simpa using h2
        rw [sgn_nil.mpr hz2] <;> rfl
      rw [e] at k
      exact k
  · rw [List.take_length]
    have e : isStickD d = false := by
      match d, h1 with
      | .raw .non, _ => rfl
      | .raw (.bl _), _ => rfl
      | .raw (.int _), _ => rfl
      | .raw (.byt _), _ => rfl
      | .raw (.flt _), _ => rfl
      | .raw (.ref _), _ => rfl
      | .raw (.ty _), _ => rfl
      | .tup _, _ => rfl
      | .lst _, _ => rfl
      | .ro _, _ => rfl
      | .obj _ _ _, _ => rfl
      | .exc _ _ _ _, _ => rfl
    rw [e] at k
    exact k
theorem stickD_str {x : D} (h : isStickD x = true) : ∃ a, x = .str a ∧ isStickS a = true := by
  match x, h with
  | .raw (.str a), h => exact ⟨a, rfl, h⟩

section
variable {K : PySem.W.Frag} {Δ : L3.Env} {cs : Cells} {A : AE} {c : TT} {u v w : TS}
theorem xs_guard0 {B : Bool} {t : TS} (h : Et K c Δ cs fun b cs1 => b = B ∧ cs1 = cs) (h1 : B = true → Xs K t A Δ cs) (h2 : B = false → Xs K v A Δ cs) : Xs K (tIfS c t v) A Δ cs := xs_branch h h1 h2
end
theorem sc_first_misfit : FnScope ["checks", "at", "check"] ["checks"] (defScope s_first_misfit) := ⟨rfl, rfl, rfl, by decide +kernel, rfl, by decide +kernel, by decide +kernel⟩
set_option maxHeartbeats 4000000 in
theorem ok_first_misfit (T : Txt K mg) : FnOk P w K mg base CX0 2 T.a_first_misfit T.d_first_misfit ["checks"] (spA K (c_misW K)) := by
  have G_is_sequence := ok_is_sequence (P := P) (w := w) (base := base) T
  have G_is_stick := ok_is_stick (P := P) (w := w) (base := base) T
  refine T.F_first_misfit.ok sc_first_misfit (spA_len (F := (c_misW K)) (by rintro ds cs R X ⟨_, rfl, _⟩; rfl)) (fun cdv A outer s H vs Q E hr h => ?_)
  have hu := hu_of hr
  refine ⟨_, (pss_cons (ps_if (PW.pt (pw_or (pt_not (pt_val (pe_call G_is_sequence (hr.mono (by decide)) rfl T.g_is_sequence T.F_is_sequence.kp T.b_is_sequence .nil pass0 (pa_cons (pv 0) pa_nil)))) (pw_or1 (pt_cmpR op_eq (pe_callB (kcall_len (K := K) rfl) (by rfl) T.n_len PySem.boot_len (pa_cons (pv 0) pa_nil)) pe_int (nomark _))))) (pss_one (ps_ret pe_int)) pss_nil)
    (pss_cons (ps_for PassesOwn.never rfl (pi_or (kpi_enum (K := K) rfl (by rfl) T.n_enumerate (pa_cons (pv 0) pa_nil)) (pi_enumT rfl (by rfl) T.n_enumerate (pa_cons (pv 0) pa_nil))) (kpg_tup (K := K) (n := 2) rfl rfl (pgs_cons (pg_name (i := 1) sc_first_misfit.nd rfl (by first | exact .inl rfl | exact .inr rfl)) (pgs_cons (pg_name (i := 2) sc_first_misfit.nd rfl (by first | exact .inl rfl | exact .inr rfl)) pgs_nil)))
    (pss_one (ps_if (pt_not (PW.pt (pw_and (pt_val (pe_call G_is_stick (hr.mono (by decide)) rfl T.g_is_stick T.F_is_stick.kp T.b_is_stick .nil pass0 (pa_cons (pv 2) pa_nil))) (pw_and1 (pt_cmpR op_eq (pe_callB (kcall_len (K := K) rfl) (by rfl) T.n_len PySem.boot_len (pa_cons (pv 2) pa_nil)) (pe_callB (kcall_len (K := K) rfl) (by rfl) T.n_len PySem.boot_len (pa_cons (pe_ix (ix_any (K := K) rfl) (pv 0) pe_int (fun _ _ => rfl)) pa_nil)) (nomark _)))))) (pss_one (ps_ret (pv 1))) pss_nil)))
    (pss_one (ps_ret pe_non)))), ?_⟩
  refine enter h (fun ds cs R X G f xq => ?_)
  clear h xq
  try dsimp only [cxOf, Cx.nox, Cx.wish]
  obtain ⟨d, rfl, pw, kk⟩ := f
  show Xs K _ _ [some d, none, none] cs
  by_cases hs : (isListD d || isTupD d) = true
  rotate_left
  · have hs2 : (isListD d || isTupD d) = false := by simpa using hs
    refine xs_guard (B := true) (C := cs) ?_ (fun _ => ?_) (fun h => absurd h.symm Bool.false_ne_true)
    · walk_at "ev"
      refine ⟨d, rfl, pw.one.ty, lv_bl ⟨fun _ => ⟨rfl, rfl⟩, fun h => ?_⟩⟩
      rw [hs2] at h
      cases h
    · walk_at "ev"
      refine ⟨cs.length, ?_⟩
      rw [due_no hs2] at kk
      rw [List.take_length]
      exact kk
  rcases seq_of hs with e | e
  · generalize itemsD d = xs at e
    subst e
    refine xs_guard (B := xs.isEmpty) (C := cs) ?_ (fun h => ?_) (fun h => ?_)
    · walk_at "ev"
      refine ⟨_, rfl, pw.one.ty, lv_bl ⟨fun h => absurd (show false = true from h) Bool.false_ne_true, fun _ => ?_⟩⟩
      walk_at "ev"
      have e : (xs.length : Int) = 0 ↔ xs.isEmpty = true := by rw [List.isEmpty_iff, ← List.length_eq_zero_iff]; omega
      refine lv_bl ⟨?_, rfl⟩
      rw [Bool.eq_iff_iff, decide_eq_true_iff]
      exact e
    · walk_at "ev"
      refine ⟨cs.length, ?_⟩
      have : xs = [] := List.isEmpty_iff.mp h
      subst this
      rw [List.take_length]
      exact kk
    rw [due_lst h] at kk
    have hne : 1 ≤ xs.length := by
      cases xs with
      | nil => cases h
      | cons a r => exact Nat.succ_le_succ (Nat.zero_le _)
    have items : ∀ x ∈ xs, PV1 K x := pw.items
    have few : xs.length ≤ 40 := pw.few
    refine xs_cut (M := fun Δ cs' => (∃ x y, Δ = [some (.lst xs), x, y]) ∧ misfit xs = none ∧ cs' = cs) ?_ ?_
    rotate_left
    · rintro Δ cs' ⟨⟨x, y, rfl⟩, hm, rfl⟩
      walk_at "ev"
      refine ⟨cs'.length, ?_⟩
      rw [List.take_length]
      rw [hm] at kk
      exact kk
    refine xs_for (ei_or1 (ei_enum ?_))
    walk_at "ev"
    refine ⟨_, rfl, fun i Δ cs' => (∃ x y, Δ = [some (.lst xs), x, y]) ∧ (∀ j, j < i → okAt xs j = true) ∧ cs' = cs, ⟨⟨_, _, rfl⟩, fun j hj => absurd hj (Nat.not_lt_zero _), rfl⟩, ?_, ?_⟩
    rotate_left
    · rintro Δ cs' ⟨⟨x, y, rfl⟩, ho, rfl⟩
      have hl : (enumD xs).length = xs.length := by simp [enumD]
      rw [hl] at ho
      exact ⟨⟨_, _, rfl⟩, mis_no ho, rfl⟩
    rintro i d Δ cs' hd ⟨⟨x, y, rfl⟩, ho, rfl⟩
    obtain ⟨it, hit, rfl⟩ := enumG hd
    clear hd
    have hi : i < xs.length := (List.getElem?_eq_some_iff.mp hit).1
    have pit := items it (List.mem_of_getElem? hit)
    refine gg_tup rfl (ggs_cons (gg_name (ggs_cons (gg_name (ggs_nil ?_)))))
    show Xs K _ _ [some (.lst xs), some (.int i), some it] cs'
    have bad : okAt xs i = false → ∃ n, R (.int i) (cs'.take n) := fun hb => by
      refine ⟨cs'.length, ?_⟩
      rw [List.take_length]
      rw [mis_at hi hb ho] at kk
      exact kk
    have good : okAt xs i = true → (∃ x' y', [some (D.lst xs), some (.int i), some it] = [some (D.lst xs), x', y']) ∧ (∀ j, j < i + 1 → okAt xs j = true) ∧ cs' = cs' := fun hg => ⟨⟨_, _, rfl⟩, fun j hj => by
      by_cases e : j = i
      · rw [e]; exact hg
      · exact ho j (by omega), rfl⟩
    refine xs_guard0 (B := !okAt xs i) ?_ (fun hb => ?_) (fun hb => ?_)
    rotate_left
    · walk_at "ev"
      exact bad (by simpa using hb)
    · exact xs_next (good (by simpa using hb))
    have first : ∀ z, it = .str z → isStickS z = true → ∃ z0, xs[0]? = some (.str z0) ∧ z0.length ≤ 300 := fun z ez hz => by
      by_cases e : i = 0
      · subst e
        subst ez
        exact ⟨z, hit, pit.len z rfl⟩
      · obtain ⟨z0, _, e0, _, _, _⟩ := okAt_of (ho 0 (by omega))
        exact ⟨z0, e0, (items _ (List.mem_of_getElem? e0)).len z0 rfl⟩
    walk_at "ev"
    refine ⟨it, rfl, pit, lv_bool (fun hs => ?_) (fun hs => ?_)⟩
    · obtain ⟨z, rfl, hz⟩ := stickD_str hs
      obtain ⟨z0, e0, l0⟩ := first z rfl hz
      have lz := pit.len z rfl
      walk_at "ev"
      refine oa_lenS (small_line (by omega)) ?_
      walk_at "ev"
      refine o2_ixAL (atI_of (j := 0) rfl e0) ?_
      walk_at "ev"
      refine oa_lenS (small_line (by omega)) ?_
      walk_at "ev"
      refine lv_bl ⟨?_, rfl⟩
      rw [okAt_eq hit e0, hz, Bool.true_and]
      show (!decide ((z.length : Int) = (z0.length : Int))) = !decide (z.length = z0.length)
      rw [show decide ((z.length : Int) = (z0.length : Int)) = decide (z.length = z0.length) from dec_congr (by omega)]
    · refine ⟨?_, rfl⟩
      rw [okAt_bad hit hs]
  · generalize itemsD d = xs at e
    subst e
    refine xs_guard (B := xs.isEmpty) (C := cs) ?_ (fun h => ?_) (fun h => ?_)
    · walk_at "ev"
      refine ⟨_, rfl, pw.one.ty, lv_bl ⟨fun h => absurd (show false = true from h) Bool.false_ne_true, fun _ => ?_⟩⟩
      walk_at "ev"
      have e : (xs.length : Int) = 0 ↔ xs.isEmpty = true := by rw [List.isEmpty_iff, ← List.length_eq_zero_iff]; omega
      refine lv_bl ⟨?_, rfl⟩
      rw [Bool.eq_iff_iff, decide_eq_true_iff]
      exact e
    · walk_at "ev"
      refine ⟨cs.length, ?_⟩
      have : xs = [] := List.isEmpty_iff.mp h
      subst this
      rw [List.take_length]
      exact kk
    rw [due_tup h] at kk
    have hne : 1 ≤ xs.length := by
      cases xs with
      | nil => cases h
      | cons a r => exact Nat.succ_le_succ (Nat.zero_le _)
    have items : ∀ x ∈ xs, PV1 K x := pw.items
    have few : xs.length ≤ 40 := pw.few
    refine xs_cut (M := fun Δ cs' => (∃ x y, Δ = [some (.tup xs), x, y]) ∧ misfit xs = none ∧ cs' = cs) ?_ ?_
    rotate_left
    · rintro Δ cs' ⟨⟨x, y, rfl⟩, hm, rfl⟩
      walk_at "ev"
      refine ⟨cs'.length, ?_⟩
      rw [List.take_length]
      rw [hm] at kk
      exact kk
    refine xs_for (ei_or2 (ei_enumT ?_))
    walk_at "ev"
    refine ⟨_, rfl, fun i Δ cs' => (∃ x y, Δ = [some (.tup xs), x, y]) ∧ (∀ j, j < i → okAt xs j = true) ∧ cs' = cs, ⟨⟨_, _, rfl⟩, fun j hj => absurd hj (Nat.not_lt_zero _), rfl⟩, ?_, ?_⟩
    rotate_left
    · rintro Δ cs' ⟨⟨x, y, rfl⟩, ho, rfl⟩
      have hl : (enumD xs).length = xs.length := by simp [enumD]
      rw [hl] at ho
      exact ⟨⟨_, _, rfl⟩, mis_no ho, rfl⟩
    rintro i d Δ cs' hd ⟨⟨x, y, rfl⟩, ho, rfl⟩
    obtain ⟨it, hit, rfl⟩ := enumG hd
    clear hd
    have hi : i < xs.length := (List.getElem?_eq_some_iff.mp hit).1
    have pit := items it (List.mem_of_getElem? hit)
    refine gg_tup rfl (ggs_cons (gg_name (ggs_cons (gg_name (ggs_nil ?_)))))
    show Xs K _ _ [some (.tup xs), some (.int i), some it] cs'
    have bad : okAt xs i = false → ∃ n, R (.int i) (cs'.take n) := fun hb => by
      refine ⟨cs'.length, ?_⟩
      rw [List.take_length]
      rw [mis_at hi hb ho] at kk
      exact kk
    have good : okAt xs i = true → (∃ x' y', [some (D.tup xs), some (.int i), some it] = [some (D.tup xs), x', y']) ∧ (∀ j, j < i + 1 → okAt xs j = true) ∧ cs' = cs' := fun hg => ⟨⟨_, _, rfl⟩, fun j hj => by
      by_cases e : j = i
      · rw [e]; exact hg
      · exact ho j (by omega), rfl⟩
    refine xs_guard0 (B := !okAt xs i) ?_ (fun hb => ?_) (fun hb => ?_)
    rotate_left
    · walk_at "ev"
      exact bad (by simpa using hb)
    · exact xs_next (good (by simpa using hb))
    have first : ∀ z, it = .str z → isStickS z = true → ∃ z0, xs[0]? = some (.str z0) ∧ z0.length ≤ 300 := fun z ez hz => by
      by_cases e : i = 0
      · subst e
        subst ez
        exact ⟨z, hit, pit.len z rfl⟩
      · obtain ⟨z0, _, e0, _, _, _⟩ := okAt_of (ho 0 (by omega))
        exact ⟨z0, e0, (items _ (List.mem_of_getElem? e0)).len z0 rfl⟩
    walk_at "ev"
    refine ⟨it, rfl, pit, lv_bool (fun hs => ?_) (fun hs => ?_)⟩
    · obtain ⟨z, rfl, hz⟩ := stickD_str hs
      obtain ⟨z0, e0, l0⟩ := first z rfl hz
      have lz := pit.len z rfl
      walk_at "ev"
      refine oa_lenS (small_line (by omega)) ?_
      walk_at "ev"
      refine o2_ixAT (atI_of (j := 0) rfl e0) ?_
      walk_at "ev"
      refine oa_lenS (small_line (by omega)) ?_
      walk_at "ev"
      refine lv_bl ⟨?_, rfl⟩
      rw [okAt_eq hit e0, hz, Bool.true_and]
      show (!decide ((z.length : Int) = (z0.length : Int))) = !decide (z.length = z0.length)
      rw [show decide ((z.length : Int) = (z0.length : Int)) = decide (z.length = z0.length) from dec_congr (by omega)]
    · refine ⟨?_, rfl⟩
      rw [okAt_bad hit hs]
theorem er_checks {K : PySem.W.Frag} {mg : Str → Option Value} (T : Txt K mg) {ta : TE} {Δ : L3.Env} {cs : Cells} {R : RK} (h : Er K ta Δ cs fun x cs1 => ∃ cks, x = ruleD T cks ∧ R (.tup (cks.map D.str)) cs1) : Er K (tFld K ta "checks") Δ cs R :=
  er_fld (er_mono h fun x cs1 ⟨cks, e, k⟩ => ⟨_, _, _, _, e, T.cl_CheckRule, T.no_CheckRule_checks, rfl, k⟩)
def c_rule_initX {K : PySem.W.Frag} {mg : Str → Option Value} (T : Txt K mg) : Tr := fun ds cs R X => ∃ (p : Addr) (cs0 : Cells) (d : D), ds = [.raw (.ref p), d] ∧ cs = cs0 ++ [(p, .ins T.C_CheckRule [] [])] ∧ PW K d ∧
  (∀ n : Nat, dueO d = some n → X (.ref T.C_InvalidRule) [("at", .int n)] cs0) ∧ (dueO d = none → R .non (cs0 ++ [(p, .ins T.C_CheckRule ["checks"] [.tup (itemsD d)])]))
theorem sc_CheckRule___init__ : FnScope ["self", "checks", "at"] ["self", "checks"] (defScope s_CheckRule___init__) := ⟨rfl, rfl, rfl, by decide +kernel, rfl, by decide +kernel, by decide +kernel⟩
set_option maxHeartbeats 4000000 in
theorem ok_CheckRule___init__ (T : Txt K mg) : FnOk P w K mg base (L2.CX P w) 3 T.a_CheckRule___init__ T.d_CheckRule___init__ ["self", "checks"] (spA K (c_rule_initX T)) := by
  have G_first_misfit := ok_first_misfit (P := P) (w := w) (base := base) T
  have G_InvalidRule___init__ := ok_InvalidRule___init__ (P := P) (w := w) (base := base) T
  refine T.F_CheckRule___init__.ok sc_CheckRule___init__ (spA_len (F := (c_rule_initX T)) (by rintro ds cs R X ⟨_, _, _, rfl, _⟩; rfl)) (fun cdv A outer s H vs Q E hr h => ?_)
  have hu := hu_of hr
  refine ⟨_, (pss_cons (ps_set (i := 2) sc_CheckRule___init__.nd rfl (by first | exact .inl rfl | exact .inr rfl) (pe_call G_first_misfit (hr.mono (by decide)) rfl T.g_first_misfit T.F_first_misfit.kp T.b_first_misfit .nil pass0 (pa_cons (pv 1) pa_nil)))
    (pss_cons (ps_if (pt_cmp (pc_notN (pv 2))) (pss_one (ps_raiseF rfl (takes_of rfl rfl rfl rfl) T.o_InvalidRule T.i_InvalidRule T.ti_InvalidRule G_InvalidRule___init__ (hr.mono (by decide)) T.b_InvalidRule___init__ (by rfl) T.g_InvalidRule (pa_cons (pv 2) pa_nil))) pss_nil)
    (pss_one (ps_fld (pv 0) (pe_callTy (kcall_tup (K := K) rfl) (by rfl) T.n_tuple (by decide +kernel) (pa_cons (pv 1) pa_nil)) rfl)))), ?_⟩
  refine enter h (fun ds cs R X G f xq => ?_)
  clear h xq
  try dsimp only [cxOf, Cx.nox, Cx.wish]
  obtain ⟨p, cs0, d, rfl, rfl, pw, kX, kR⟩ := f
  show Xs K _ _ [some (.raw (.ref p)), some d, none] (cs0 ++ [(p, .ins T.C_CheckRule [] [])])
  walk_at "ev"
  refine ⟨d, rfl, pw, ?_⟩
  cases e : dueO d with
  | some n =>
    show Xs K _ _ [some (.raw (.ref p)), some d, some (.int n)] (cs0 ++ [(p, .ins T.C_CheckRule [] [])])
    refine xs_guard (B := true) (C := cs0 ++ [(p, .ins T.C_CheckRule [] [])]) ?_ (fun _ => ?_) (fun h => absurd h.symm Bool.false_ne_true)
    · walk_at "ev"
      exact lv_bl ⟨rfl, rfl⟩
    · refine xs_raiseFd (fun _ h => h) (er_var rfl ⟨cs0.length, ?_⟩)
      rw [List.take_left' rfl]
      exact kX n e
  | none =>
    show Xs K _ _ [some (.raw (.ref p)), some d, some .non] (cs0 ++ [(p, .ins T.C_CheckRule [] [])])
    refine xs_guard (B := false) (C := cs0 ++ [(p, .ins T.C_CheckRule [] [])]) ?_ (fun h => absurd h Bool.false_ne_true) (fun _ => ?_)
    · walk_at "ev"
      exact lv_bl ⟨rfl, rfl⟩
    have hs : (isListD d || isTupD d) = true := by
      cases h : (isListD d || isTupD d) with
      | true => rfl
      | false =>
        rw [due_no h] at e
        cases e
    have fin : ∃ j, R .non (((cs0 ++ [(p, CO.ins T.C_CheckRule [] [])]).set cs0.length (p, .ins T.C_CheckRule (([] : List Str) ++ [("checks" : Str)]) (([] : List D) ++ [.tup (itemsD d)]))).take j) := by
      refine ⟨(cs0 ++ [(p, CO.ins T.C_CheckRule ["checks"] [.tup (itemsD d)])]).length, ?_⟩
      rw [List.set_append_right _ _ (Nat.le_refl _), Nat.sub_self]
      show R D.non ((cs0 ++ [(p, CO.ins T.C_CheckRule ["checks"] [.tup (itemsD d)])]).take _)
      rw [List.take_length]
      exact kR e
    refine xs_fldNew (er_cb (ea_cons (er_var rfl (ea_nil ?_))))
    rcases seq_of hs with ed | ed
    · rw [ed]
      refine oa_tupL ?_
      rw [ed] at fin
      walk_at "ev"
      exact ⟨p, cs0.length, T.C_CheckRule, [], [], rfl, by simp, T.cl_CheckRule, T.no_CheckRule_checks, by decide, by decide, fin⟩
    · rw [ed]
      refine oa_tupT ?_
      rw [ed] at fin
      walk_at "ev"
      exact ⟨p, cs0.length, T.C_CheckRule, [], [], rfl, by simp, T.cl_CheckRule, T.no_CheckRule_checks, by decide, by decide, fin⟩
def c_putX {K : PySem.W.Frag} {mg : Str → Option Value} (T : Txt K mg) : Tr := fun ds cs R X => ∃ cks w d, ds = [ruleD T cks, d] ∧ RuleOk cks w ∧ PV1 K d ∧ (isStickD d = false → X (.ref T.C_InvalidStick) [] cs) ∧ (isStickD d = true → ∀ y, R (.str y) cs)
theorem sc_CheckRule_put : FnScope ["self", "stick"] ["self", "stick"] (defScope s_CheckRule_put) := ⟨rfl, rfl, rfl, by decide +kernel, rfl, by decide +kernel, by decide +kernel⟩
set_option maxHeartbeats 4000000 in
theorem ok_CheckRule_put (T : Txt K mg) : FnOk P w K mg base (L2.CX P w) 2 T.a_CheckRule_put T.d_CheckRule_put ["self", "stick"] (spA K (c_putX T)) := by
  have G_is_stick := ok_is_stick (P := P) (w := w) (base := base) T
  refine T.F_CheckRule_put.ok sc_CheckRule_put (spA_len (F := (c_putX T)) (by rintro ds cs R X ⟨_, _, _, rfl, _⟩; rfl)) (fun cdv A outer s H vs Q E hr h => ?_)
  have hu := hu_of hr
  refine ⟨_, (pss_cons (ps_if (pt_not (pt_val (pe_call G_is_stick (hr.mono (by decide)) rfl T.g_is_stick T.F_is_stick.kp T.b_is_stick .nil pass0 (pa_cons (pv 1) pa_nil)))) (pss_one (ps_raise0 rfl (takes_of rfl rfl rfl rfl) PySem.F.excBase_ValueError T.x_InvalidStick T.g_InvalidStick T.k_InvalidStick T.b_InvalidStick T.t_InvalidStick)) pss_nil)
    (pss_one (ps_ret (pe_op op_add_str (pv 1) (pe_ix (kix_tup (K := K) rfl) (kpe_fld (K := K) rfl (pv 0)) (pe_op op_mod (pe_count (pv 1) (pe_glob (v := .str ".") rfl T.g_PLAIN ⟨_, rfl⟩)) (pe_callB (kcall_len (K := K) rfl) (by rfl) T.n_len PySem.boot_len (pa_cons (kpe_fld (K := K) rfl (pv 0)) pa_nil))) (fun _ _ => rfl)))))), ?_⟩
  refine enter h (fun ds cs R X G f xq => ?_)
  clear h xq
  try dsimp only [cxOf, Cx.nox, Cx.wish]
  obtain ⟨cks, w, d, rfl, hr0, pv, kX, kR⟩ := f
  show Xs K _ _ [some (ruleD T cks), some d] cs
  have hne := hr0.ne
  have hw := hr0.w2
  refine xs_guard (B := !isStickD d) (C := cs) ?_ (fun h => ?_) (fun h => ?_)
  · walk_at "ev"
    exact ⟨d, rfl, pv, lv_bl ⟨rfl, rfl⟩⟩
  · exact xs_raise (fun _ h => h) (kX (by simpa using h))
  have hst : isStickD d = true := by simpa using h
  obtain ⟨z, rfl, hz⟩ := stickD_str hst
  have hl := pv.len z rfl
  have kk := kR hst
  obtain ⟨c, hc⟩ : ∃ c, cks[N.pl (sgn z) % cks.length]? = some c := ⟨_, List.getElem?_eq_getElem (Nat.mod_lt _ hne)⟩
  have gc : (cks.map D.str)[N.pl (sgn z) % cks.length]? = some (.str c) := by rw [List.getElem?_map, hc]; rfl
  obtain ⟨sc, lc⟩ := hr0.stick hc
  walk_at "ev"
  refine er_checks T ?_
  walk_at "ev"
  refine ⟨cks, rfl, ?_⟩
  refine er_op (er_count ?_)
  walk_at "ev"
  refine ⟨_, rfl, ?_⟩
  walk_at "ev"
  refine ⟨_, rfl, ?_⟩
  rw [count_p]
  walk_at "ev"
  refine er_checks T ?_
  walk_at "ev"
  refine ⟨cks, rfl, ?_⟩
  walk_at "ev"
  rw [List.length_map]
  refine o2_I (show (0 : Int) < (cks.length : Int) by omega) ?_
  refine o2_ixT (atI_of (j := N.pl (sgn z) % cks.length) (Int.natCast_emod ..).symm gc) ?_
  refine o2_addS ?_ ⟨cs.length, ?_⟩
  · have : (1000 + 20 : Nat) ≤ sizeLine := by decide
    omega
  rw [List.take_length]
  exact kk _
theorem sc__law_deal : FnScope ["_law_script", "_law_base", "_law_cells", "_law_blend", "_law_cell"] ["_law_script", "_law_base"] (defScope s__law_deal) := ⟨rfl, rfl, rfl, by decide +kernel, rfl, by decide +kernel, by decide +kernel⟩
set_option maxHeartbeats 4000000 in
theorem ok__law_deal (T : Txt K mg) : FnOk P w K mg base CX0 1 T.a__law_deal T.d__law_deal ["_law_script", "_law_base"] (spA K c_deal) := by
  refine T.F__law_deal.ok sc__law_deal (spA_len (F := c_deal) (by rintro ds cs R X ⟨_, _, rfl, _⟩; rfl)) (fun cdv A outer s H vs Q E hr h => ?_)
  have hu := hu_of hr
  refine ⟨_, (pss_cons (ps_setLc (i := 2) (own := [("_law_cell", 4)]) (g := _) (tt := _) rfl sc__law_deal.nd rfl rfl (sw_true rfl rfl rfl (by decide +kernel)) (kpi_list (K := K) rfl (pe_slice (ksl_list (K := K) rfl) (pv 0) (po_some (pv 1)) (po_some pe_int))) (blkOk_by (N := ["_law_script", "_law_base", "_law_cells", "_law_blend", "_law_cell"]) (sc := defScope s__law_deal) (by decide +kernel)) (fun _ _ _ _ _ => (pg_name (i := 4) sc__law_deal.nd rfl (by first | exact .inl rfl | exact .inr rfl))) (fun _ _ _ _ _ => pts_nil) (fun _ _ _ _ _ => (pe_callB kcall_abs (by rfl) T.n_abs (by decide +kernel) (pa_cons (pv 4) pa_nil))))
    (pss_cons (ps_set (i := 3) sc__law_deal.nd rfl (by first | exact .inl rfl | exact .inr rfl) (pe_op op_add pe_int (pe_op op_mul pe_int (pv 1))))
    (pss_cons (ps_for PassesOwn.never rfl (kpi_list (K := K) rfl (pv 2)) (pg_name (i := 4) sc__law_deal.nd rfl (by first | exact .inl rfl | exact .inr rfl))
    (pss_one (ps_set (i := 3) sc__law_deal.nd rfl (by first | exact .inl rfl | exact .inr rfl) (pe_op op_mod (pe_callTy kcall_int1 (by rfl) T.n_int (by decide +kernel) (pa_cons (pe_op op_add (pe_op op_add (pe_op op_mul (pv 3) pe_int) (pe_op op_mod (pe_callTy kcall_int1 (by rfl) T.n_int (by decide +kernel) (pa_cons (pv 4) pa_nil)) pe_int)) pe_int) pa_nil)) pe_int))))
    (pss_one (ps_ret (pe_lst (pa_cons (kpe_revL (K := K) rfl (pe_lc (own := [("_law_cell", 4)]) (g := _) (tt := _) rfl sc__law_deal.nd (kpi_list (K := K) rfl (pv 2)) (blkOk_by (N := ["_law_script", "_law_base", "_law_cells", "_law_blend", "_law_cell"]) (sc := defScope s__law_deal) (by decide +kernel)) (fun _ _ _ _ _ => (pg_name (i := 4) sc__law_deal.nd rfl (by first | exact .inl rfl | exact .inr rfl))) (fun _ _ _ _ _ => (pts_one (pt_cmpR op_ge (pv 4) (pe_op op_pow pe_int pe_int) (nomark _)))) (fun _ _ _ _ _ => (pv 4)))) (pa_cons (pv 3) pa_nil)))))))), ?_⟩
  refine enter h (fun ds cs R X G f xq => ?_)
  clear h xq
  try dsimp only [cxOf, Cx.nox, Cx.wish]
  obtain ⟨ns, k, rfl, hl, hk0, hk1, rfl, kk⟩ := f
  show Xs K _ _ [some (.ro (ns.map D.int)), some (.int k), none, none, none] []
  have hab : ∀ i : Int, 0 ≤ (if i < 0 then -i else i) := fun i => by split <;> omega
  refine xs_cut (M := fun Δ cs => ∃ is : List Int, (∀ i ∈ is, 0 ≤ i) ∧ is.length ≤ 63 ∧ Δ = [some (.ro (ns.map D.int)), some (.int k), some (.lst (is.map D.int)), none, none] ∧ cs = []) ?_ ?_
  · refine xs_asg ?_
    refine er_lcM (fun d => match d with | .raw (.int i) => .int (if i < 0 then -i else i) | d => d) (tgt_name (by decide)) ?_
    refine ei_list (er_slR ?_)
    walk_at "ev"
    refine ⟨_, rfl, ?_⟩
    walk_at "ev"
    refine ⟨_, rfl, ?_⟩
    walk_at "ev"
    refine ⟨_, rfl, ?_⟩
    obtain ⟨ms, em, hm⟩ := cut_ints ns (some k) (some 56)
    rw [em]
    refine ⟨_, rfl, by rw [List.length_map]; omega, fun j d acc p hd => ?_, ?_⟩
    · rw [List.getElem?_map] at hd
      cases hj : ms[j]? with
      | none => rw [hj] at hd; cases hd
      | some m =>
        rw [hj] at hd
        cases hd
        walk_at "ev"
        exact ⟨rfl, rfl⟩
    · refine ⟨ms.map fun i => if i < 0 then -i else i, fun i hi => ?_, by rw [List.length_map]; omega, ?_, rfl⟩
      · obtain ⟨m, _, rfl⟩ := List.mem_map.mp hi
        exact hab m
      · rw [List.map_map, List.map_map]
        rfl
  rintro Δ cs ⟨is, his, hil, rfl, rfl⟩
  refine xs_seqAsg (d := .int (49979687 + 37 * k)) (C := []) ?_ ?_
  · walk_at "ev"
    refine o2_I (.inl (by decide)) ?_
    walk_at "ev"
    exact ⟨rfl, rfl⟩
  refine xs_cut (M := fun Δ cs => ∃ (b : Int) (x : Option D), Δ = [some (.ro (ns.map D.int)), some (.int k), some (.lst (is.map D.int)), some (.int b), x] ∧ cs = []) ?_ ?_
  · refine xs_for (ei_list ?_)
    walk_at "ev"
    refine ⟨_, rfl, fun _ Δ cs => ∃ (b : Int) (x : Option D), Δ = [some (.ro (ns.map D.int)), some (.int k), some (.lst (is.map D.int)), some (.int b), x] ∧ cs = [], ⟨_, _, rfl, rfl⟩, ?_, ?_⟩
    · rintro j d Δ cs hd ⟨b, x, rfl, rfl⟩
      rw [List.getElem?_map] at hd
      cases hj : is[j]? with
      | none => rw [hj] at hd; cases hd
      | some m =>
        rw [hj] at hd
        cases hd
        refine gg_name ?_
        show Xs K _ _ [some (.ro (ns.map D.int)), some (.int k), some (.lst (is.map D.int)), some (.int b), some (.int m)] []
        walk_at "ev"
        refine o2_I (.inr (by decide)) ?_
        walk_at "ev"
        refine o2_I (show (0 : Int) < 2147483543 by decide) ?_
        walk_at "ev"
        refine o2_I (show (0 : Int) < 2147483647 by decide) ?_
        exact ⟨_, _, rfl, rfl⟩
    · rintro Δ cs ⟨b, x, rfl, rfl⟩
      exact ⟨b, x, rfl, rfl⟩
  rintro Δ cs ⟨b, x, rfl, rfl⟩
  refine xs_ret (er_lstC (ea_cons (er_revC ?_)))
  refine er_lcP (fun d => match d with | .raw (.int i) => decide ((10 : Int) ^ (18 : Int).toNat ≤ i) | _ => false) (fun d => d) (tgt_name (by decide)) ?_
  refine ei_list ?_
  walk_at "ev"
  refine ⟨_, rfl, by rw [List.length_map]; omega, fun j d acc p hd => ?_, ?_⟩
  · rw [List.getElem?_map] at hd
    cases hj : is[j]? with
    | none => rw [hj] at hd; cases hd
    | some m =>
      rw [hj] at hd
      cases hd
      walk_at "ev"
      refine o2_I ⟨by decide, by decide, by decide⟩ ?_
      walk_at "ev"
      refine lv_bl ⟨fun h => ⟨h, ?_⟩, fun h => ⟨h, rfl⟩⟩
      walk_at "ev"
      exact ⟨rfl, rfl⟩
  · refine ⟨_, rfl, fun q => ?_⟩
    walk_at "ev"
    refine ⟨by show 2 ≤ sizeLine; decide, fun p => ⟨2, ?_⟩⟩
    have e : (((is.map D.int).filter fun d => match d with | .raw (.int i) => decide ((10 : Int) ^ (18 : Int).toNat ≤ i) | _ => false).map fun d => d).reverse = ((is.filter fun i => decide ((10 : Int) ^ (18 : Int).toNat ≤ i)).reverse).map D.int := by
      rw [List.map_id', List.filter_map, List.map_reverse]
      rfl
    show R (.raw (.ref p)) [(q, .lst _), (p, .lst [.raw (.ref q), .int b])]
    rw [e]
    refine kk q p _ b ⟨fun i hi => his i (List.mem_filter.mp (List.mem_reverse.mp hi)).1, ?_⟩
    rw [List.length_reverse]
    have := List.length_filter_le (fun i => decide ((10 : Int) ^ (18 : Int).toNat ≤ i)) is
    omega
theorem sc__law_draw : FnScope ["_law_deal_here", "_law_bound", "_law_left"] ["_law_deal_here", "_law_bound"] (defScope s__law_draw) := ⟨rfl, rfl, rfl, by decide +kernel, rfl, by decide +kernel, by decide +kernel⟩
set_option maxHeartbeats 4000000 in
theorem ok__law_draw (T : Txt K mg) : FnOk P w K mg base CX0 1 T.a__law_draw T.d__law_draw ["_law_deal_here", "_law_bound"] (spA K c_draw) := by
  refine T.F__law_draw.ok sc__law_draw (spA_len (F := c_draw) (by rintro ds cs R X ⟨_, _, _, _, _, _, rfl, _⟩; rfl)) (fun cdv A outer s H vs Q E hr h => ?_)
  have hu := hu_of hr
  refine ⟨_, (pss_cons (ps_while PassesOwn.never (PW.pt (pw_and (pt_cmpR (kop_neD (K := K) rfl hr.units) (pe_ix (kix_list (K := K) rfl) (pv 0) pe_int (fun _ _ => rfl)) (pe_lst pa_nil) (nomark _)) (pw_and1 (pt_cmpR op_eq (pe_ix (kix_list (K := K) rfl) (pe_ix (kix_list (K := K) rfl) (pv 0) pe_int (fun _ _ => rfl)) (pe_un un_neg pe_int) (fun _ _ => rfl)) pe_int (nomark _))))) (pss_one (ps_expr (pe_bm0 PySem.F.plainAttrs_list PySem.F.slot_list_pop PySem.F.type_list_pop mt_pop (pe_ix (kix_list (K := K) rfl) (pv 0) pe_int (fun _ _ => rfl))))))
    (pss_cons (ps_if (pt_cmpR (kop_neD (K := K) rfl hr.units) (pe_ix (kix_list (K := K) rfl) (pv 0) pe_int (fun _ _ => rfl)) (pe_lst pa_nil) (nomark _)) (pss_cons (ps_set (i := 2) sc__law_draw.nd rfl (by first | exact .inl rfl | exact .inr rfl) (pe_bm0 PySem.F.plainAttrs_list PySem.F.slot_list_pop PySem.F.type_list_pop mt_pop (pe_ix (kix_list (K := K) rfl) (pv 0) pe_int (fun _ _ => rfl))))
    (pss_cons (ps_expr (pe_bm PySem.F.plainAttrs_list PySem.F.slot_list_append PySem.F.type_list_append mt_append (pe_ix (kix_list (K := K) rfl) (pv 0) pe_int (fun _ _ => rfl)) (pa_cons (pe_op op_fdiv (pv 2) (pv 1)) pa_nil)))
    (pss_one (ps_ret (pe_op op_mod (pe_callTy kcall_int1 (by rfl) T.n_int (by decide +kernel) (pa_cons (pv 2) pa_nil)) (pv 1)))))) pss_nil)
    (pss_cons (ps_asg (pe_op op_mod (pe_callTy kcall_int1 (by rfl) T.n_int (by decide +kernel) (pa_cons (pe_op op_add (pe_op op_mul (pe_ix (kix_list (K := K) rfl) (pv 0) pe_int (fun _ _ => rfl)) pe_int) pe_int) pa_nil)) pe_int) (pg_sub (pv 0) pe_int set_list))
    (pss_one (ps_ret (pe_op op_mod (pe_callTy kcall_int1 (by rfl) T.n_int (by decide +kernel) (pa_cons (pe_op op_fdiv (pe_ix (kix_list (K := K) rfl) (pv 0) pe_int (fun _ _ => rfl)) pe_int) pa_nil)) (pv 1))))))), ?_⟩
  refine enter h (fun ds cs R X G f xq => ?_)
  clear h xq
  try dsimp only [cxOf, Cx.nox, Cx.wish]
  obtain ⟨q, p, is, b, n, cs0, rfl, rfl, hn, hn0, hn1, kk⟩ := f
  show Xs K _ _ [some (.raw (.ref p)), some (.int n), none] (dealC q p is b ++ cs0)
  have s0 : ∀ (is : List Int) (b : Int), (dealC q p is b ++ cs0)[0]? = some (q, CO.lst (is.map D.int)) := fun _ _ => rfl
  have s1 : ∀ (is : List Int) (b : Int), (dealC q p is b ++ cs0)[1]? = some (p, CO.lst [.raw (.ref q), .int b]) := fun _ _ => rfl
  have i0 : ∀ b : Int, atI [D.raw (.ref q), D.int b] 0 = some (.raw (.ref q)) := fun _ => rfl
  have i1 : ∀ b : Int, atI [D.raw (.ref q), D.int b] 1 = some (.int b) := fun _ => rfl
  have lst : ∀ (l : List Int) (x : Int), atI ((l ++ [x]).map D.int) (-1) = some (.int x) := fun l x => by
    unfold atI
    have e : ixN ((l ++ [x]).map D.int).length (-1) = some l.length := by
      rw [List.length_map, List.length_append]
      unfold ixN
      rw [if_neg (by omega), if_pos (by have : [x].length = 1 := rfl; omega)]
      have : [x].length = 1 := rfl
      congr 1
      omega
    rw [e]
    simp
  have fin : ∀ {d : D} {C : Cells} {r : Int} {is' : List Int} {b' : Int}, d = .int r → C = dealC q p is' b' ++ cs0 → 0 ≤ r → r < n → NN is' → ∃ j, R d (C.take j) := fun ed ec h0 h1 h2 => ⟨_, by rw [List.take_length, ed, ec]; exact kk _ _ _ h0 h1 h2⟩
  refine xs_cut (M := fun Δ cs => ∃ is : List Int, NN is ∧ Δ = [some (.raw (.ref p)), some (.int n), none] ∧ cs = dealC q p is b ++ cs0) ?_ ?_
  · refine xs_while (fun m Δ cs => ∃ is : List Int, m = is.length ∧ NN is ∧ Δ = [some (.raw (.ref p)), some (.int n), none] ∧ cs = dealC q p is b ++ cs0) ⟨_, is, rfl, hn, rfl, rfl⟩ ?_
    rintro m Δ cs ⟨is, rfl, hn, rfl, rfl⟩
    walk_at "ev"
    refine o2_ixC (s1 _ _) (i0 _) ?_
    refine er_lst (ea_nil ⟨by show 0 ≤ sizeLine; decide, ?_⟩)
    refine o2_neC (s0 _ _) (flat_ints _) ?_
    refine lv_bl ⟨fun h => ?_, fun h => ⟨fun z => absurd z Bool.false_ne_true, fun _ => ⟨is, hn, rfl, rfl⟩⟩⟩
    rcases List.eq_nil_or_concat is with e | ⟨l, x, e⟩
    · rw [e] at h
      exact absurd h (by decide)
    rw [List.concat_eq_append] at e
    subst e
    walk_at "ev"
    refine o2_ixC (s1 _ _) (i0 _) ?_
    walk_at "ev"
    refine o2_ixC (s0 _ _) (lst l x) ?_
    walk_at "ev"
    refine lv_bl ⟨fun h2 => ?_, fun h2 => ⟨_, hn, rfl, rfl⟩⟩
    refine xs_drop (er_pop ?_)
    walk_at "ev"
    refine o2_ixC (s1 _ _) (i0 _) ?_
    refine ⟨q, 0, l.map D.int, .int x, rfl, by rw [s0, List.map_append]; rfl, l.length, by rw [List.length_append]; exact Nat.lt_succ_self _, l, rfl, ⟨fun i hi => hn.1 i (List.mem_append_left _ hi), ?_⟩, rfl, rfl⟩
    have := hn.2
    rw [List.length_append] at this
    omega
  clear hn is
  rintro Δ cs ⟨is, hn, rfl, rfl⟩
  refine xs_guard (B := !is.isEmpty) (C := dealC q p is b ++ cs0) ?_ (fun h => ?_) (fun h => ?_)
  · walk_at "ev"
    refine o2_ixC (s1 _ _) (i0 _) ?_
    refine er_lst (ea_nil ⟨by show 0 ≤ sizeLine; decide, ?_⟩)
    refine o2_neC (s0 _ _) (flat_ints _) (lv_bl ⟨?_, rfl⟩)
    rw [List.isEmpty_map]
  · rcases List.eq_nil_or_concat is with e | ⟨l, x, e⟩
    · rw [e] at h
      exact absurd h (by decide)
    rw [List.concat_eq_append] at e
    subst e
    have hx : 0 ≤ x := hn.1 x (List.mem_append_right _ (List.mem_singleton.mpr rfl))
    have hl : l.length + 1 ≤ 1000 := by
      have := hn.2
      rw [List.length_append] at this
      exact this
    refine xs_seq (xs_asg (er_pop ?_))
    walk_at "ev"
    refine o2_ixC (s1 _ _) (i0 _) ?_
    refine ⟨q, 0, l.map D.int, .int x, rfl, by rw [s0, List.map_append]; rfl, ?_⟩
    show Xs K _ _ [some (.raw (.ref p)), some (.int n), some (.int x)] (dealC q p l b ++ cs0)
    refine xs_seq (xs_drop (er_app (tf := tC .non) ?_))
    walk_at "ev"
    refine o2_ixC (s1 _ _) (i0 _) ?_
    refine ⟨q, 0, _, rfl, s0 _ _, ?_⟩
    walk_at "ev"
    refine o2_I ⟨hn0, by omega⟩ ?_
    refine ⟨_, s0 _ _, small1000 (by rw [List.length_map]; omega), ?_⟩
    have es : (dealC q p l b ++ cs0).set 0 (q, .lst (l.map D.int ++ [D.int (x / n)])) = dealC q p (l ++ [x / n]) b ++ cs0 := by
      show (q, CO.lst _) :: _ = (q, CO.lst _) :: _
      rw [List.map_append]
      rfl
    show Xs K _ _ [some (.raw (.ref p)), some (.int n), some (.int x)] ((dealC q p l b ++ cs0).set 0 (q, .lst (l.map D.int ++ [D.int (x / n)])))
    rw [es]
    walk_at "ev"
    refine o2_I hn0 ?_
    refine fin rfl rfl (Int.emod_nonneg _ (by omega)) (Int.emod_lt_of_pos _ hn0) ⟨fun i hi => ?_, by rw [List.length_append]; exact hl⟩
    rcases List.mem_append.mp hi with hi | hi
    · exact hn.1 i (List.mem_append_left _ hi)
    · rw [List.mem_singleton.mp hi]
      exact Int.ediv_nonneg hx (by omega)
  refine xs_seq (xs_asgG ?_)
  walk_at "ev"
  refine o2_ixC (s1 _ _) (i1 _) ?_
  walk_at "ev"
  refine o2_I (.inr (by decide)) ?_
  walk_at "ev"
  refine o2_I (show (0 : Int) < 2147483647 by decide) ?_
  refine gg_sub ?_
  walk_at "ev"
  refine ⟨p, 1, _, 1, 1, rfl, rfl, s1 _ _, rfl, ?_⟩
  generalize ((b * 41231 + 41) % 2147483647 : Int) = b2
  show Xs K _ _ [some (.raw (.ref p)), some (.int n), none] (dealC q p is b2 ++ cs0)
  walk_at "ev"
  refine o2_ixC (s1 _ _) (i1 _) ?_
  walk_at "ev"
  refine o2_I ⟨by decide, by decide⟩ ?_
  walk_at "ev"
  refine o2_I hn0 ?_
  exact fin rfl rfl (Int.emod_nonneg _ (by omega)) (Int.emod_lt_of_pos _ hn0) hn
theorem sc__law_pick : FnScope ["_law_deal_here", "_law_some"] ["_law_deal_here", "_law_some"] (defScope s__law_pick) := ⟨rfl, rfl, rfl, by decide +kernel, rfl, by decide +kernel, by decide +kernel⟩
set_option maxHeartbeats 4000000 in
theorem ok__law_pick (T : Txt K mg) : FnOk P w K mg base CX0 2 T.a__law_pick T.d__law_pick ["_law_deal_here", "_law_some"] (spA K c_dpick) := by
  have G__law_draw := ok__law_draw (P := P) (w := w) (base := base) T
  refine T.F__law_pick.ok sc__law_pick (spA_len (F := c_dpick) (by rintro ds cs R X ⟨_, _, _, _, _, _, rfl, _⟩; rfl)) (fun cdv A outer s H vs Q E hr h => ?_)
  have hu := hu_of hr
  refine ⟨_, (pss_one (ps_ret (pe_ix (kix_list (K := K) rfl) (pv 1) (pe_call G__law_draw (hr.mono (by decide)) rfl T.g__law_draw T.F__law_draw.kp T.b__law_draw .nil pass0 (pa_cons (pv 0) (pa_cons (pe_callB (kcall_len (K := K) rfl) (by rfl) T.n_len PySem.boot_len (pa_cons (pv 1) pa_nil)) pa_nil))) (fun _ _ => rfl)))), ?_⟩
  refine enter h (fun ds cs R X G f xq => ?_)
  clear h xq
  try dsimp only [cxOf, Cx.nox, Cx.wish]
  obtain ⟨q, p, is, b, cs0, xs, rfl, rfl, hn, hx, hl, kk⟩ := f
  show Xs K _ _ [some (.raw (.ref p)), some (.lst xs)] (dealC q p is b ++ cs0)
  have h0 : 0 < xs.length := List.length_pos_iff.mpr hx
  walk_at "ev"
  refine ⟨q, p, is, b, (xs.length : Int), cs0, rfl, rfl, hn, by omega, by omega, fun r is' b' hr0 hr1 hn' => ?_⟩
  have hi : r.toNat < xs.length := by omega
  have hg : xs[r.toNat]? = some (xs[r.toNat]) := List.getElem?_eq_getElem hi
  refine o2_ixL (atI_of (j := r.toNat) (by omega) hg) ⟨(dealC q p is' b' ++ cs0).length, ?_⟩
  rw [List.take_length]
  exact kk _ _ _ _ hg hn'
theorem sc__law_stick : FnScope ["_law_deal_here", "_law_length", "_law_at"] ["_law_deal_here", "_law_length"] (defScope s__law_stick) := ⟨rfl, rfl, rfl, by decide +kernel, rfl, by decide +kernel, by decide +kernel⟩
set_option maxHeartbeats 4000000 in
theorem ok__law_stick (T : Txt K mg) : FnOk P w K mg base CX0 3 T.a__law_stick T.d__law_stick ["_law_deal_here", "_law_length"] (spA K c_dstick) := by
  have G__law_pick := ok__law_pick (P := P) (w := w) (base := base) T
  refine T.F__law_stick.ok sc__law_stick (spA_len (F := c_dstick) (by rintro ds cs R X ⟨_, _, _, _, _, _, rfl, _⟩; rfl)) (fun cdv A outer s H vs Q E hr h => ?_)
  have hu := hu_of hr
  refine ⟨_, (pss_one (ps_ret (kpe_join (K := K) rfl pe_str (pe_lc (own := [("_law_at", 2)]) (g := _) (tt := _) rfl sc__law_stick.nd (pi_range1 (by rfl) T.n_range (pa_cons (pv 1) pa_nil)) (blkOk_by (N := ["_law_deal_here", "_law_length", "_law_at"]) (sc := defScope s__law_stick) (by decide +kernel)) (fun _ _ _ _ _ => (pg_name (i := 2) sc__law_stick.nd rfl (by first | exact .inl rfl | exact .inr rfl))) (fun _ _ _ _ _ => pts_nil) (fun _ _ _ _ _ => (pe_call G__law_pick (hr.mono (by decide)) rfl T.g__law_pick T.F__law_pick.kp T.b__law_pick .nil pass0 (pa_cons (pv 0) (pa_cons (pe_lst (pa_cons pe_str (pa_cons pe_str pa_nil))) pa_nil)))))))), ?_⟩
  refine enter h (fun ds cs R X G f xq => ?_)
  clear h xq
  try dsimp only [cxOf, Cx.nox, Cx.wish]
  obtain ⟨q, p, is, b, n, cs0, rfl, rfl, hn, hl, kk⟩ := f
  show Xs K _ _ [some (.raw (.ref p)), some (.int n), none] (dealC q p is b ++ cs0)
  walk_at "ev"
  refine lv_str ?_
  refine er_lc (tgt_name (by decide)) ?_
  refine ei_range ?_
  walk_at "ev"
  refine ⟨n, rfl, by omega, by omega, fun i acc cs2 => ∃ (l : List Nat) (is : List Int) (b : Int), acc = (l.map sg).map D.str ∧ l.length = i ∧ i ≤ n ∧ N.okl l = true ∧ cs2 = dealC q p is b ++ cs0 ∧ NN is, ⟨[], is, b, rfl, rfl, Nat.zero_le _, rfl, rfl, hn⟩, ?_, ?_⟩
  · rintro i d acc cs2 u hd ⟨l, is, b, rfl, hl2, hi, hj, rfl, hn⟩
    obtain ⟨hi', rfl⟩ := rangeD_get hd
    walk_at "ev"
    refine ⟨fun _ => ?_, fun h => absurd h.symm Bool.false_ne_true⟩
    walk_at "ev"
    refine er_lst ?_
    walk_at "ev"
    refine ⟨by show 2 ≤ sizeLine; decide, ?_⟩
    walk_at "ev"
    refine ⟨q, p, is, b, cs0 ++ [(u, .lst ((l.map sg).map D.str))], _, rfl, by rw [← List.append_assoc], hn, List.cons_ne_nil _ _, by decide, fun j e is' b' he hn' => ?_⟩
    obtain ⟨s, rfl, hs⟩ : ∃ s : Nat, e = D.str (sg s) ∧ (s = 46 ∨ s = 120) := by
      match j, he with
      | 0, he => cases he; exact ⟨46, rfl, .inl rfl⟩
      | 1, he => cases he; exact ⟨120, rfl, .inr rfl⟩
    refine ⟨dealC q p is' b' ++ cs0, by rw [← List.append_assoc], ?_, l ++ [s], is', b', by rw [List.map_append, List.map_append]; rfl, by rw [List.length_append, hl2]; rfl, by omega, ?_, rfl, hn'⟩
    · rw [List.length_map, List.length_map]
      exact small1000 (by omega)
    · refine (by rw [N.okl, List.all_append, Bool.and_eq_true]; exact ⟨hj, by rcases hs with rfl | rfl <;> rfl⟩)
  · rintro acc cs2 ⟨l, is, b, rfl, hl2, _, hj, rfl, hn⟩
    rw [rangeD_len] at hl2
    have hl2 : l.length = n := by omega
    refine ⟨l.map sg, rfl, ?_, (dealC q p is b ++ cs0).length, ?_⟩
    · rw [sum_sg, List.length_map]
      show l.length + l.length * 0 ≤ _
      omega
    · rw [List.take_length]
      exact kk _ _ _ (by rw [sgn_joinG, hl2]) (by rw [sgn_joinG]; exact hj) hn
def c_near : Tr := fun ds cs R _ => ∃ (q p : Addr) (is : List Int) (b : Int) (z : Str) (cs0 : Cells), ds = [.raw (.ref p), .str z] ∧ cs = dealC q p is b ++ cs0 ∧ NN is ∧ z.length ≤ 300 ∧ N.okl (sgn z) = true ∧ ∀ (y : Str) is' b', (sgn y).length = (sgn z).length → N.okl (sgn y) = true → NN is' → R (.str y) (dealC q p is' b' ++ cs0)
theorem sc__law_near : FnScope ["_law_deal_here", "_law_stick_here", "_law_found", "_law_sign", "_law_form"] ["_law_deal_here", "_law_stick_here"] (defScope s__law_near) := ⟨rfl, rfl, rfl, by decide +kernel, rfl, by decide +kernel, by decide +kernel⟩
set_option maxHeartbeats 4000000 in
theorem ok__law_near (T : Txt K mg) : FnOk P w K mg base CX0 2 T.a__law_near T.d__law_near ["_law_deal_here", "_law_stick_here"] (spA K c_near) := by
  have G__law_draw := ok__law_draw (P := P) (w := w) (base := base) T
  refine T.F__law_near.ok sc__law_near (spA_len (F := c_near) (by rintro ds cs R X ⟨_, _, _, _, _, _, rfl, _⟩; rfl)) (fun cdv A outer s H vs Q E hr h => ?_)
  have hu := hu_of hr
  refine ⟨_, (pss_cons (ps_set (i := 2) sc__law_near.nd rfl (by first | exact .inl rfl | exact .inr rfl) pe_str)
    (pss_cons (ps_for PassesOwn.never rfl (pi_str (pv 1)) (pg_name (i := 3) sc__law_near.nd rfl (by first | exact .inl rfl | exact .inr rfl))
    (pss_cons (ps_set (i := 4) sc__law_near.nd rfl (by first | exact .inl rfl | exact .inr rfl) (pe_call G__law_draw (hr.mono (by decide)) rfl T.g__law_draw T.F__law_draw.kp T.b__law_draw .nil pass0 (pa_cons (pv 0) (pa_cons pe_int pa_nil))))
    (pss_one (ps_set (i := 2) sc__law_near.nd rfl (by first | exact .inl rfl | exact .inr rfl) (pe_op op_add_str (pv 2) (pe_ifExp (pt_cmpR op_lt (pv 4) pe_int (nomark _)) pe_str (pe_ifExp (pt_cmpR op_eq (pv 4) pe_int (nomark _)) pe_str (pv 3))))))))
    (pss_one (ps_ret (pv 2))))), ?_⟩
  refine enter h (fun ds cs R X G f xq => ?_)
  clear h xq
  try dsimp only [cxOf, Cx.nox, Cx.wish]
  obtain ⟨q, p, is, b, z, cs0, rfl, rfl, hn, hl, hz, kk⟩ := f
  show Xs K _ _ [some (.raw (.ref p)), some (.str z), none, none, none] (dealC q p is b ++ cs0)
  have lz := sgn_len z
  refine xs_seqAsg (d := .str "") (C := dealC q p is b ++ cs0) (er_c ⟨rfl, rfl⟩) ?_
  have hs : (signsD z).length = (sgn z).length := by unfold signsD; rw [List.length_map]; rfl
  refine xs_cut (M := fun Δ cs => ∃ (y : Str) (x3 x4 : Option D) (is : List Int) (b : Int), (sgn y).length = (sgn z).length ∧ N.okl (sgn y) = true ∧ NN is ∧ Δ = [some (.raw (.ref p)), some (.str z), some (.str y), x3, x4] ∧ cs = dealC q p is b ++ cs0) ?_ ?_
  · refine xs_for (ei_str ?_)
    walk_at "ev"
    refine ⟨z, rfl, fun i Δ cs => i ≤ (sgn z).length ∧ ∃ (y : Str) (x3 x4 : Option D) (is : List Int) (b : Int), (sgn y).length = i ∧ N.okl (sgn y) = true ∧ NN is ∧ Δ = [some (.raw (.ref p)), some (.str z), some (.str y), x3, x4] ∧ cs = dealC q p is b ++ cs0, ⟨Nat.zero_le _, "", _, _, is, b, rfl, rfl, hn, rfl, rfl⟩, ?_, ?_⟩
    · rintro i d Δ cs hd ⟨hi0, y, x3, x4, is, b, hy, oy, hn, rfl, rfl⟩
      unfold signsD at hd
      rw [List.getElem?_map] at hd
      cases hq : z.cps.toList[i]? with
      | none => rw [hq] at hd; cases hd
      | some c =>
        rw [hq] at hd
        cases hd
        have hi : i < (sgn z).length := (List.getElem?_eq_some_iff.mp hq).1
        have hc : (c == 46 || c == 120) = true := List.all_eq_true.mp hz c (List.mem_of_getElem? hq)
        have ly := sgn_len y
        refine gg_name ?_
        show Xs K _ _ [some (.raw (.ref p)), some (.str z), some (.str y), some (.str (sg c)), x4] (dealC q p is b ++ cs0)
        walk_at "ev"
        refine ⟨q, p, is, b, 6, cs0, rfl, rfl, hn, by decide, by decide, fun r is' b' hr0 hr1 hn' => ?_⟩
        have go : ∀ s : Nat, (s == 46 || s == 120) = true → (y.length + (sg s).length ≤ sizeLine) ∧ (i + 1 ≤ (sgn z).length ∧ ∃ (y' : Str) (x3 x4 : Option D) (is : List Int) (b : Int), (sgn y').length = i + 1 ∧ N.okl (sgn y') = true ∧ NN is ∧ [some (D.raw (.ref p)), some (D.str z), some (D.str (y ++ sg s)), some (D.str (sg c)), some (D.int r)] = [some (D.raw (.ref p)), some (D.str z), some (D.str y'), x3, x4] ∧ dealC q p is' b' ++ cs0 = dealC q p is b ++ cs0) := fun s hs => by
          refine ⟨small_line (by have : (sg s).length = 1 := rfl; omega), hi, _, _, _, is', b', ?_, ?_, hn', rfl, rfl⟩
          · rw [sgn_app, List.length_append, hy]
            rfl
          · rw [sgn_app]
            exact N.okl_app oy (by show ((s == 46 || s == 120) && true) = true; rw [hs]; rfl)
        walk_at "ev"
        refine lv_bl ⟨fun _ => ?_, fun _ => ?_⟩
        · walk_at "ev"
          exact o2_addS (go 120 rfl).1 (go 120 rfl).2
        · walk_at "ev"
          refine lv_bl ⟨fun _ => ?_, fun _ => ?_⟩
          · walk_at "ev"
            exact o2_addS (go 46 rfl).1 (go 46 rfl).2
          · walk_at "ev"
            exact o2_addS (go c hc).1 (go c hc).2
    · rintro Δ cs ⟨_, y, x3, x4, is, b, hy, oy, hn, rfl, rfl⟩
      exact ⟨y, _, _, is, b, by rw [hy, hs], oy, hn, rfl, rfl⟩
  rintro Δ cs ⟨y, x3, x4, is, b, hy, oy, hn, rfl, rfl⟩
  walk_at "ev"
  refine ⟨(dealC q p is b ++ cs0).length, ?_⟩
  rw [List.take_length]
  exact kk y is b hy oy hn
def c_lrule : Tr := fun ds cs R _ => ∃ (q p : Addr) (is : List Int) (b : Int) (mx wd : Nat) (cs0 : Cells), ds = [.raw (.ref p), .int mx, .int wd] ∧ cs = dealC q p is b ++ cs0 ∧ NN is ∧ 1 ≤ mx ∧ mx ≤ 20 ∧ 1 ≤ wd ∧ wd ≤ 20 ∧
  ∀ cks w is' b', RuleOk cks w → cks.length ≤ mx → w ≤ wd → NN is' → R (.lst (cks.map D.str)) (dealC q p is' b' ++ cs0)
theorem sc__law_rule : FnScope ["_law_deal_here", "_law_most", "_law_wide", "_law_at", "_law_size", "_law_places", "_law_form", "_law_found", "_law_turn", "_law_spot", "_law_left", "_law_check"] ["_law_deal_here", "_law_most", "_law_wide"] (defScope s__law_rule) := ⟨rfl, rfl, rfl, by decide +kernel, rfl, by decide +kernel, by decide +kernel⟩
set_option maxHeartbeats 4000000 in
theorem ok__law_rule (T : Txt K mg) : FnOk P w K mg base CX0 4 T.a__law_rule T.d__law_rule ["_law_deal_here", "_law_most", "_law_wide"] (spA K c_lrule) := by
  have G__law_draw := ok__law_draw (P := P) (w := w) (base := base) T
  have G__law_near := ok__law_near (P := P) (w := w) (base := base) T
  have G__law_stick := ok__law_stick (P := P) (w := w) (base := base) T
  refine T.F__law_rule.ok sc__law_rule (spA_len (F := c_lrule) (by rintro ds cs R X ⟨_, _, _, _, _, _, _, rfl, _⟩; rfl)) (fun cdv A outer s H vs Q E hr h => ?_)
  have hu := hu_of hr
  refine ⟨_, (pss_cons (ps_par (i := 4) (j := 5) rfl sc__law_rule.nd rfl rfl (by decide) rfl rfl (pa_cons (pe_op op_add pe_int (pe_call G__law_draw (hr.mono (by decide)) rfl T.g__law_draw T.F__law_draw.kp T.b__law_draw .nil pass0 (pa_cons (pv 0) (pa_cons (pv 1) pa_nil)))) (pa_cons (pe_op op_add pe_int (pe_call G__law_draw (hr.mono (by decide)) rfl T.g__law_draw T.F__law_draw.kp T.b__law_draw .nil pass0 (pa_cons (pv 0) (pa_cons (pv 2) pa_nil)))) pa_nil)) rfl)
    (pss_cons (ps_par (i := 6) (j := 7) rfl sc__law_rule.nd rfl rfl (by decide) rfl rfl (pa_cons (pe_call G__law_draw (hr.mono (by decide)) rfl T.g__law_draw T.F__law_draw.kp T.b__law_draw .nil pass0 (pa_cons (pv 0) (pa_cons pe_int pa_nil))) (pa_cons (pe_lst pa_nil) pa_nil)) rfl)
    (pss_cons (ps_for PassesOwn.never rfl (pi_range1 (by rfl) T.n_range (pa_cons (pv 4) pa_nil)) (pg_name (i := 3) sc__law_rule.nd rfl (by first | exact .inl rfl | exact .inr rfl))
    (pss_cons (ps_par (i := 10) (j := 11) rfl sc__law_rule.nd rfl rfl (by decide) rfl rfl (pa_cons (pv 3) (pa_cons pe_str pa_nil)) rfl)
    (pss_cons (ps_for PassesOwn.never rfl (pi_range1 (by rfl) T.n_range (pa_cons (pv 5) pa_nil)) (pg_name (i := 8) sc__law_rule.nd rfl (by first | exact .inl rfl | exact .inr rfl))
    (pss_one (ps_par (i := 11) (j := 10) rfl sc__law_rule.nd rfl rfl (by decide) rfl rfl (pa_cons (pe_op op_add_str (pe_ifExp (pt_cmpR op_eq (pe_op op_mod (pv 10) pe_int) pe_int (nomark _)) pe_str pe_str) (pv 11)) (pa_cons (pe_callTy kcall_int1 (by rfl) T.n_int (by decide +kernel) (pa_cons (pe_op op_fdiv (pv 10) pe_int) pa_nil)) pa_nil)) rfl)))
    (pss_one (ps_expr (pe_bm PySem.F.plainAttrs_list PySem.F.slot_list_append PySem.F.type_list_append mt_append (pv 7) (pa_cons (pe_ifExp (pt_cmpR op_lt (pv 6) pe_int (nomark _)) (pv 11) (pe_call G__law_stick (hr.mono (by decide)) rfl T.g__law_stick T.F__law_stick.kp T.b__law_stick .nil pass0 (pa_cons (pv 0) (pa_cons (pv 5) pa_nil)))) pa_nil)))))))
    (pss_cons (ps_if (pt_cmpR op_eq (pv 6) pe_int (nomark _)) (pss_cons (ps_set (i := 9) sc__law_rule.nd rfl (by first | exact .inl rfl | exact .inr rfl) (pe_call G__law_draw (hr.mono (by decide)) rfl T.g__law_draw T.F__law_draw.kp T.b__law_draw .nil pass0 (pa_cons (pv 0) (pa_cons (pv 4) pa_nil))))
    (pss_one (ps_asg (pe_call G__law_near (hr.mono (by decide)) rfl T.g__law_near T.F__law_near.kp T.b__law_near .nil pass0 (pa_cons (pv 0) (pa_cons (pe_ix (kix_list (K := K) rfl) (pv 7) (pv 9) (fun _ _ => rfl)) pa_nil))) (pg_sub (pv 7) (pv 9) set_list)))) pss_nil)
    (pss_one (ps_ret (pv 7))))))), ?_⟩
  refine enter h (fun ds cs R X G f xq => ?_)
  clear h xq
  try dsimp only [cxOf, Cx.nox, Cx.wish]
  obtain ⟨q, p, is, b, mx, wd, cs0, rfl, rfl, hn, hm1, hm2, hw1, hw2, kk⟩ := f
  show Xs K _ _ [some (.raw (.ref p)), some (.int mx), some (.int wd), none, none, none, none, none, none, none, none, none] (dealC q p is b ++ cs0)
  refine xs_seq (xs_par ?_)
  walk_at "ev"
  refine ⟨q, p, is, b, mx, cs0, rfl, rfl, hn, by omega, by omega, fun r1 is1 b1 hr0 hr1 hn1 => ?_⟩
  clear hn
  walk_at "ev"
  refine ⟨q, p, is1, b1, wd, cs0, rfl, rfl, hn1, by omega, by omega, fun r2 is2 b2 hs0 hs1 hn2 => ?_⟩
  clear hn1
  walk_at "ev"
  refine ⟨_, _, rfl, ?_⟩
  obtain ⟨m, hm⟩ : ∃ m : Nat, (1 + r1 : Int) = (m : Int) := ⟨(1 + r1).toNat, by omega⟩
  obtain ⟨w, hw⟩ : ∃ w : Nat, (1 + r2 : Int) = (w : Int) := ⟨(1 + r2).toNat, by omega⟩
  rw [hm, hw]
  have m1 : 1 ≤ m ∧ m ≤ mx := by omega
  have w1 : 1 ≤ w ∧ w ≤ wd := by omega
  clear hm hw hr0 hr1 hs0 hs1
  show Xs K _ _ [some (.raw (.ref p)), some (.int mx), some (.int wd), none, some (.int m), some (.int w), none, none, none, none, none, none] (dealC q p is2 b2 ++ cs0)
  refine xs_seq (xs_par ?_)
  walk_at "ev"
  refine ⟨q, p, is2, b2, 3, cs0, rfl, rfl, hn2, by decide, by decide, fun fm is3 b3 _ _ hn3 => ?_⟩
  clear hn2
  refine ea_cons (er_lstC (ea_nil ⟨by show 0 ≤ sizeLine; decide, fun l => ?_⟩))
  walk_at "ev"
  refine ⟨_, _, rfl, ?_⟩
  show Xs K _ _ [some (.raw (.ref p)), some (.int mx), some (.int wd), none, some (.int m), some (.int w), some (.int fm), some (.raw (.ref l)), none, none, none, none] (dealC q p is3 b3 ++ cs0 ++ [(l, .lst (([] : List Str).map D.str))])
  have fin : ∀ (cks : List Str) (is : List Int) (b : Int), cks.length = m → (∀ c ∈ cks, Dr w c) → NN is → ∃ j, R (.lst (cks.map D.str)) ((dealC q p is b ++ cs0).take j) := fun cks is b h1 h2 h3 => ⟨_, by
    rw [List.take_length]
    exact kk cks w is b ⟨by omega, by omega, by omega, by omega, h2⟩ (by omega) (by omega) h3⟩
  have st : ∀ (is : List Int) (b : Int) (ds : List D), (dealC q p is b ++ cs0 ++ [(l, CO.lst ds)])[2 + cs0.length]? = some (l, .lst ds) := fun is b ds => by
    rw [List.getElem?_append_right (by rw [List.length_append]; exact Nat.le_refl _), List.length_append]
    simp
  have se : ∀ (is : List Int) (b : Int) (ds ds2 : List D), (dealC q p is b ++ cs0 ++ [(l, CO.lst ds)]).set (2 + cs0.length) (l, .lst ds2) = dealC q p is b ++ cs0 ++ [(l, CO.lst ds2)] := fun is b ds ds2 => by
    rw [List.set_append_right _ _ (by rw [List.length_append]; exact Nat.le_refl _), List.length_append]
    simp
  have ha : ∀ (is : List Int) (b : Int) (ds : List D), dealC q p is b ++ cs0 ++ [(l, CO.lst ds)] = dealC q p is b ++ (cs0 ++ [(l, CO.lst ds)]) := fun is b ds => List.append_assoc ..
  have small : ∀ (cks : List Str), cks.length ≤ 1000 → (cks.map D.str).length < sizeLine := fun cks h => by rw [List.length_map]; exact small1000 h
  refine xs_cut (M := fun Δ cs => ∃ (x3 x8 x10 x11 : Option D) (cks : List Str) (is : List Int) (b : Int), cks.length = m ∧ (∀ c ∈ cks, Dr w c) ∧ NN is ∧ Δ = [some (.raw (.ref p)), some (.int mx), some (.int wd), x3, some (.int m), some (.int w), some (.int fm), some (.raw (.ref l)), x8, none, x10, x11] ∧ cs = dealC q p is b ++ cs0 ++ [(l, .lst (cks.map D.str))]) ?_ ?_
  · refine xs_for (ei_range ?_)
    walk_at "ev"
    refine ⟨m, rfl, by omega, by omega, fun i Δ cs => i ≤ m ∧ ∃ (x3 x8 x10 x11 : Option D) (cks : List Str) (is : List Int) (b : Int), cks.length = i ∧ (∀ c ∈ cks, Dr w c) ∧ NN is ∧ Δ = [some (.raw (.ref p)), some (.int mx), some (.int wd), x3, some (.int m), some (.int w), some (.int fm), some (.raw (.ref l)), x8, none, x10, x11] ∧ cs = dealC q p is b ++ cs0 ++ [(l, .lst (cks.map D.str))], ⟨Nat.zero_le _, _, _, _, _, [], is3, b3, rfl, fun c h => (by cases h), hn3, rfl, rfl⟩, ?_, ?_⟩
    rotate_left
    · rintro Δ cs ⟨_, x3, x8, x10, x11, cks, is, b, h1, h2, h3, rfl, rfl⟩
      rw [rangeD_len] at h1
      exact ⟨_, _, _, _, cks, is, b, by omega, h2, h3, rfl, rfl⟩
    clear hn3
    rintro i d Δ cs hd ⟨_, x3, x8, x10, x11, cks, is, b, h1, h2, h3, rfl, rfl⟩
    obtain ⟨hi, rfl⟩ := rangeD_get hd
    clear hd
    refine gg_name (xs_seq (xs_par ?_))
    walk_at "ev"
    refine ⟨_, _, rfl, ?_⟩
    show Xs K _ _ [some (.raw (.ref p)), some (.int mx), some (.int wd), some (.int i), some (.int m), some (.int w), some (.int fm), some (.raw (.ref l)), x8, none, some (.int i), some (.str "")] (dealC q p is b ++ cs0 ++ [(l, .lst (cks.map D.str))])
    refine xs_cut (M := fun Δ cs => ∃ (x8 x10 : Option D) (z : Str), Dr w z ∧ Δ = [some (.raw (.ref p)), some (.int mx), some (.int wd), some (.int i), some (.int m), some (.int w), some (.int fm), some (.raw (.ref l)), x8, none, x10, some (.str z)] ∧ cs = dealC q p is b ++ cs0 ++ [(l, .lst (cks.map D.str))]) ?_ ?_
    · refine xs_for (ei_range ?_)
      walk_at "ev"
      refine ⟨w, rfl, by omega, by omega, fun t Δ cs => t ≤ w ∧ ∃ (x8 : Option D) (v : Int) (z : Str), Dr t z ∧ Δ = [some (.raw (.ref p)), some (.int mx), some (.int wd), some (.int i), some (.int m), some (.int w), some (.int fm), some (.raw (.ref l)), x8, none, some (.int v), some (.str z)] ∧ cs = dealC q p is b ++ cs0 ++ [(l, .lst (cks.map D.str))], ⟨Nat.zero_le _, _, _, "", ⟨rfl, rfl⟩, rfl, rfl⟩, ?_, ?_⟩
      rotate_left
      · rintro Δ cs ⟨_, x8, v, z, hz, rfl, rfl⟩
        rw [rangeD_len, Int.toNat_natCast] at hz
        exact ⟨_, _, z, hz, rfl, rfl⟩
      rintro t d Δ cs hd ⟨_, x8, v, z, hz, rfl, rfl⟩
      obtain ⟨ht, rfl⟩ := rangeD_get hd
      clear hd
      rw [Int.toNat_natCast] at ht
      have lz : z.length = t := hz.sz
      have go : ∀ s : Nat, (s == 46 || s == 120) = true → ((sg s).length + z.length ≤ sizeLine) ∧ Dr (t + 1) (sg s ++ z) := fun s hs => by
        refine ⟨small_line (by have : (sg s).length = 1 := rfl; omega), ?_, ?_⟩
        · rw [sgn_app, List.length_append, hz.len]
          show 1 + t = _
          omega
        · rw [sgn_app, List.all_append, hz.ok, Bool.and_true]
          show ((s == 46 || s == 120) && true) = true
          rw [hs]
          rfl
      refine gg_name (xs_par ?_)
      walk_at "ev"
      refine o2_I (show (0 : Int) < 2 by decide) ?_
      walk_at "ev"
      refine lv_bl ⟨fun _ => ?_, fun _ => ?_⟩
      · walk_at "ev"
        refine o2_addS (go 120 rfl).1 ?_
        walk_at "ev"
        refine o2_I ⟨by decide, by decide⟩ ?_
        walk_at "ev"
        exact ⟨_, _, rfl, by omega, _, _, _, (go 120 rfl).2, rfl, rfl⟩
      · walk_at "ev"
        refine o2_addS (go 46 rfl).1 ?_
        walk_at "ev"
        refine o2_I ⟨by decide, by decide⟩ ?_
        walk_at "ev"
        exact ⟨_, _, rfl, by omega, _, _, _, (go 46 rfl).2, rfl, rfl⟩
    rintro Δ cs ⟨x8, x10, z, hz, rfl, rfl⟩
    refine xs_drop (er_app (tf := tC .non) ?_)
    walk_at "ev"
    refine ⟨l, 2 + cs0.length, _, rfl, st _ _ _, ?_⟩
    have go : ∀ (y : Str) (is : List Int) (b : Int), Dr w y → NN is → ∃ ds2 : List D, (dealC q p is b ++ cs0 ++ [(l, CO.lst (cks.map D.str))])[2 + cs0.length]? = some (l, .lst ds2) ∧ ds2.length < sizeLine ∧ (i + 1 ≤ m ∧ ∃ (x3' x8' x10' x11' : Option D) (cks : List Str) (is' : List Int) (b' : Int), cks.length = i + 1 ∧ (∀ c ∈ cks, Dr w c) ∧ NN is' ∧ [some (D.raw (.ref p)), some (.int mx), some (.int wd), some (.int i), some (.int m), some (.int w), some (.int fm), some (.raw (.ref l)), x8, none, x10, some (.str z)] = [some (D.raw (.ref p)), some (.int mx), some (.int wd), x3', some (.int m), some (.int w), some (.int fm), some (.raw (.ref l)), x8', none, x10', x11'] ∧ (dealC q p is b ++ cs0 ++ [(l, CO.lst (ds2))]).set (2 + cs0.length) (l, .lst (ds2 ++ [D.str y])) = dealC q p is' b' ++ cs0 ++ [(l, .lst (cks.map D.str))]) := fun y is b hy hn => by
      refine ⟨_, st _ _ _, small _ (by omega), by omega, _, _, _, _, cks ++ [y], is, b, by rw [List.length_append, h1]; rfl, fun c hc => ?_, hn, rfl, ?_⟩
      · rcases List.mem_append.mp hc with hc | hc
        · exact h2 c hc
        · rw [List.mem_singleton.mp hc]; exact hy
      · rw [se, List.map_append]
        rfl
    walk_at "ev"
    refine lv_bl ⟨fun _ => ?_, fun _ => ?_⟩
    · walk_at "ev"
      obtain ⟨ds2, g1, g2, g3⟩ := go z is b hz h3
      have e := (st is b (cks.map D.str)).symm.trans g1
      injection e with e
      injection e with _ e
      injection e with e
      subst e
      exact ⟨_, g1, g2, g3⟩
    · walk_at "ev"
      refine ⟨q, p, is, b, w, cs0 ++ [(l, .lst (cks.map D.str))], rfl, List.append_assoc .., h3, by omega, fun y is' b' ly oy hn' => ?_⟩
      rw [← ha]
      obtain ⟨ds2, g1, g2, g3⟩ := go y is' b' ⟨ly, oy⟩ hn'
      have e := (st is' b' (cks.map D.str)).symm.trans g1
      injection e with e
      injection e with _ e
      injection e with e
      subst e
      exact ⟨_, g1, g2, g3⟩
  rintro Δ cs ⟨x3, x8, x10, x11, cks, is, b, h1, h2, h3, rfl, rfl⟩
  refine xs_cut (M := fun Δ cs => ∃ (x9 : Option D) (cks : List Str) (is : List Int) (b : Int), cks.length = m ∧ (∀ c ∈ cks, Dr w c) ∧ NN is ∧ Δ = [some (.raw (.ref p)), some (.int mx), some (.int wd), x3, some (.int m), some (.int w), some (.int fm), some (.raw (.ref l)), x8, x9, x10, x11] ∧ cs = dealC q p is b ++ cs0 ++ [(l, .lst (cks.map D.str))]) ?_ ?_
  · walk_at "ev"
    refine lv_bl ⟨fun _ => ?_, fun _ => xs_next ⟨_, cks, is, b, h1, h2, h3, rfl, rfl⟩⟩
    walk_at "ev"
    refine ⟨q, p, is, b, m, cs0 ++ [(l, .lst (cks.map D.str))], rfl, List.append_assoc .., h3, by omega, by omega, fun r is' b' hr0 hr1 hn' => ?_⟩
    rw [← ha]
    clear h3
    obtain ⟨j, hj⟩ : ∃ j : Nat, r = (j : Int) := ⟨r.toNat, by omega⟩
    subst hj
    obtain ⟨c, hc⟩ : ∃ c, cks[j]? = some c := ⟨_, List.getElem?_eq_getElem (by omega)⟩
    have gc : (cks.map D.str)[j]? = some (.str c) := by rw [List.getElem?_map, hc]; rfl
    have dc := h2 c (List.mem_of_getElem? hc)
    show Xs K _ _ [some (.raw (.ref p)), some (.int mx), some (.int wd), x3, some (.int m), some (.int w), some (.int fm), some (.raw (.ref l)), x8, some (.int j), x10, x11] (dealC q p is' b' ++ cs0 ++ [(l, .lst (cks.map D.str))])
    refine xs_asgG ?_
    walk_at "ev"
    refine o2_ixC (st _ _ _) (atI_of (j := j) rfl gc) ?_
    walk_at "ev"
    refine ⟨q, p, is', b', c, cs0 ++ [(l, .lst (cks.map D.str))], rfl, List.append_assoc .., hn', by rw [dc.sz]; omega, dc.ok, fun y is2 b2 ly oy hn2 => ?_⟩
    rw [← ha]
    refine gg_sub ?_
    walk_at "ev"
    refine ⟨l, 2 + cs0.length, _, j, j, rfl, rfl, st _ _ _, ?_, ?_⟩
    · have : j < (cks.map D.str).length := by rw [List.length_map]; omega
      unfold ixN
      rw [if_pos (by omega), if_pos (by omega)]
      rfl
    · rw [se]
      refine ⟨_, cks.set j y, is2, b2, by rw [List.length_set, h1], fun c' hc' => ?_, hn2, rfl, by rw [List.map_set]⟩
      rcases List.mem_or_eq_of_mem_set hc' with hc' | rfl
      · exact h2 c' hc'
      · exact ⟨by rw [ly, dc.len], oy⟩
  rintro Δ cs ⟨x9, cks, is, b, h1, h2, h3, rfl, rfl⟩
  refine xs_ret (er_shareLast ?_)
  walk_at "ev"
  exact ⟨l, _, _, rfl, rfl, fin cks is b h1 h2 h3⟩
def c_any (K : PySem.W.Frag) : Nat → Tr
  | 0 => fun _ _ _ _ => False
  | m + 1 => fun ds cs R _ => ∃ (q p : Addr) (is : List Int) (b : Int) (n : Nat) (cs0 : Cells) (x : D), ds = [.raw (.ref p), .int n, x] ∧ cs = dealC q p is b ++ cs0 ∧ NN is ∧ n ≤ m ∧ PV1 K x ∧ itemsD x = [] ∧ ∀ d is' b', PW K d → NN is' → R d (dealC q p is' b' ++ cs0)
theorem p1_str {K : PySem.W.Frag} {z : Str} (h1 : z.length ≤ 300) (h2 : PyData.canLay0 (.str z) = true) : PV1 K (.str z) := ⟨.bi _ (.str z), fun s e => by cases e; exact h1, fun s e => by cases e; exact h2⟩
theorem p1_int {K : PySem.W.Frag} (z : Int) : PV1 K (.int z) := ⟨.bi _ (.int z), fun s e => (by cases e), fun s e => (by cases e)⟩
theorem p1_bl {K : PySem.W.Frag} (z : Bool) : PV1 K (.bl z) := ⟨.bi _ (.bl z), fun s e => (by cases e), fun s e => (by cases e)⟩
theorem p1_non {K : PySem.W.Frag} : PV1 K .non := ⟨.bi _ (.non), fun s e => (by cases e), fun s e => (by cases e)⟩
theorem p1_lst {K : PySem.W.Frag} (l : List D) : PV1 K (.lst l) := ⟨.bi _ (.lst l), fun s e => (by cases e), fun s e => (by cases e)⟩
theorem p1_tup {K : PySem.W.Frag} (l : List D) : PV1 K (.tup l) := ⟨.bi _ (.tup l), fun s e => (by cases e), fun s e => (by cases e)⟩
theorem pw_of {K : PySem.W.Frag} {d : D} (h : PV1 K d) (hi : itemsD d = []) : PW K d := ⟨h, fun x hx => (by rw [hi] at hx; cases hx), by rw [hi]; exact Nat.zero_le _⟩
theorem pw_str {K : PySem.W.Frag} {z : Str} (h1 : z.length ≤ 300) (h2 : PyData.canLay0 (.str z) = true) : PW K (.str z) := pw_of (p1_str h1 h2) rfl
theorem pw_lst {K : PySem.W.Frag} {l : List D} (h : ∀ x ∈ l, PV1 K x) (hl : l.length ≤ 40) : PW K (.lst l) := ⟨p1_lst l, h, hl⟩
theorem pw_tup {K : PySem.W.Frag} {l : List D} (h : ∀ x ∈ l, PV1 K x) (hl : l.length ≤ 40) : PW K (.tup l) := ⟨p1_tup l, h, hl⟩
def anyL (x : D) : List D := [.non, .bl true, .int 0, .int ((10 : Int) ^ (20 : Int).toNat), .str "", .str "X", .str "x ", .str ".x", .str "x.\n", .str ".", .str "xx", x]
def NotSeq (x : D) : Prop := itemsD x = []
theorem any_ok {K : PySem.W.Frag} {x : D} (hx : PV1 K x) (hn : itemsD x = []) : ∀ d ∈ anyL x, PW K d := by
  intro d hd
  simp only [anyL, List.mem_cons, List.not_mem_nil, or_false] at hd
  rcases hd with h | h | h | h | h | h | h | h | h | h | h | h
  · rw [h]; exact pw_of p1_non rfl
  · rw [h]; exact pw_of (p1_bl _) rfl
  · rw [h]; exact pw_of (p1_int _) rfl
  · rw [h]; exact pw_of (p1_int _) rfl
  · rw [h]; exact pw_str (by decide) (by decide +kernel)
  · rw [h]; exact pw_str (by decide) (by decide +kernel)
  · rw [h]; exact pw_str (by decide) (by decide +kernel)
  · rw [h]; exact pw_str (by decide) (by decide +kernel)
  · rw [h]; exact pw_str (by decide) (by decide +kernel)
  · rw [h]; exact pw_str (by decide) (by decide +kernel)
  · rw [h]; exact pw_str (by decide) (by decide +kernel)
  · rw [h]; exact pw_of hx hn
theorem sc__law_any : FnScope ["_law_deal_here", "_law_deep", "_law_made", "_law_form", "_law_some", "_law_turn"] ["_law_deal_here", "_law_deep", "_law_made"] (defScope s__law_any) := ⟨rfl, rfl, rfl, by decide +kernel, rfl, by decide +kernel, by decide +kernel⟩
set_option maxHeartbeats 4000000 in
theorem ok__law_any (T : Txt K mg) : ∀ m : Nat, FnOk P w K mg base CX0 (m + 3) T.a__law_any T.d__law_any ["_law_deal_here", "_law_deep", "_law_made"] (spA K (c_any K m)) := by
  have G__law_draw := ok__law_draw (P := P) (w := w) (base := base) T
  have G__law_pick := ok__law_pick (P := P) (w := w) (base := base) T
  intro m
  induction m with
  | zero => exact T.F__law_any.ok sc__law_any (spA_len (F := c_any K 0) (by intro _ _ _ _ h; exact h.elim)) (fun _ _ _ _ _ _ _ _ _ h => False.elim (by obtain ⟨_, _, _, _, _, _, _, h, _⟩ := h; exact h))
  | succ m G__law_any =>
  refine T.F__law_any.ok sc__law_any (spA_len (F := c_any K (m + 1)) (by rintro ds cs R X ⟨_, _, _, _, _, _, _, rfl, _⟩; rfl)) (fun cdv A outer s H vs Q E hr h => ?_)
  have hu := hu_of hr
  refine ⟨_, (pss_cons (ps_set (i := 3) sc__law_any.nd rfl (by first | exact .inl rfl | exact .inr rfl) (pe_call G__law_draw (hr.mono (by omega)) rfl T.g__law_draw T.F__law_draw.kp T.b__law_draw .nil pass0 (pa_cons (pv 0) (pa_cons pe_int pa_nil))))
    (pss_cons (ps_if (PW.pt (pw_and (pt_cmpR op_lt (pv 3) pe_int (nomark _)) (pw_and1 (pt_cmpR op_gt (pv 1) pe_int (nomark _))))) (pss_cons (ps_setLc (i := 4) (own := [("_law_turn", 5)]) (g := _) (tt := _) rfl sc__law_any.nd rfl rfl (sw_true rfl rfl rfl (by decide +kernel)) (pi_range1 (by rfl) T.n_range (pa_cons (pe_call G__law_draw (hr.mono (by omega)) rfl T.g__law_draw T.F__law_draw.kp T.b__law_draw .nil pass0 (pa_cons (pv 0) (pa_cons pe_int pa_nil))) pa_nil)) (blkOk_by (N := ["_law_deal_here", "_law_deep", "_law_made", "_law_form", "_law_some", "_law_turn"]) (sc := defScope s__law_any) (by decide +kernel)) (fun _ _ _ _ _ => (pg_name (i := 5) sc__law_any.nd rfl (by first | exact .inl rfl | exact .inr rfl))) (fun _ _ _ _ _ => pts_nil) (fun _ _ _ _ _ => (pe_call G__law_any (hr.mono (by omega)) rfl T.g__law_any T.F__law_any.kp T.b__law_any .nil pass0 (pa_cons (pv 0) (pa_cons (pe_op op_sub (pv 1) pe_int) (pa_cons (pv 2) pa_nil))))))
    (pss_one (ps_ret (pe_ifExp (pt_cmpR op_eq (pv 3) pe_int (nomark _)) (pv 4) (pe_callTy (kcall_tup (K := K) rfl) (by rfl) T.n_tuple (by decide +kernel) (pa_cons (pv 4) pa_nil)))))) pss_nil)
    (pss_one (ps_ret (pe_call G__law_pick (hr.mono (by omega)) rfl T.g__law_pick T.F__law_pick.kp T.b__law_pick .nil pass0 (pa_cons (pv 0) (pa_cons (pe_lst (pa_cons pe_non (pa_cons pe_bl (pa_cons pe_int (pa_cons (pe_op op_pow pe_int pe_int) (pa_cons pe_str (pa_cons pe_str (pa_cons pe_str (pa_cons pe_str (pa_cons pe_str (pa_cons pe_str (pa_cons pe_str (pa_cons (pv 2) pa_nil))))))))))))) pa_nil))))))), ?_⟩
  refine enter h (fun ds cs R X G f xq => ?_)
  clear h xq
  try dsimp only [cxOf, Cx.nox, Cx.wish]
  obtain ⟨q, p, is, b, n, cs0, x, rfl, rfl, hn, hm, hx, hi0, kk⟩ := f
  show Xs K _ _ [some (.raw (.ref p)), some (.int n), some x, none, none, none] (dealC q p is b ++ cs0)
  have fin : ∀ {d : D} {C : Cells} {is' : List Int} {b' : Int}, C = dealC q p is' b' ++ cs0 → PW K d → NN is' → ∃ j, R d (C.take j) := fun ec h1 h2 => ⟨_, by rw [List.take_length, ec]; exact kk _ _ _ h1 h2⟩
  walk_at "ev"
  refine ⟨q, p, is, b, 6, cs0, rfl, rfl, hn, by decide, by decide, fun fo is1 b1 h0 h1 hn1 => ?_⟩
  show Xs K _ _ [some (.raw (.ref p)), some (.int n), some x, some (.int fo), none, none] (dealC q p is1 b1 ++ cs0)
  refine xs_guard (B := decide (fo < 2) && decide (0 < (n : Int))) (C := dealC q p is1 b1 ++ cs0) ?_ (fun h => ?_) (fun h => ?_)
  · refine et_andP ?_ (fun _ => ?_)
    · walk_at "ev"
      exact lv_bl ⟨rfl, rfl⟩
    · walk_at "ev"
      exact lv_bl ⟨rfl, rfl⟩
  · rw [Bool.and_eq_true] at h
    have hp : 0 < n := by
      have := of_decide_eq_true h.2
      omega
    obtain ⟨m', rfl⟩ : ∃ m', m = m' + 1 := ⟨m - 1, by omega⟩
    refine xs_seq (xs_mono (A := { nx := fun Δ cs => ∃ (l : List D) (is : List Int) (b : Int), (∀ x ∈ l, PV1 K x) ∧ l.length ≤ 40 ∧ NN is ∧ Δ = [some (.raw (.ref p)), some (.int n), some x, some (.int fo), some (.lst l), none] ∧ cs = dealC q p is b ++ cs0, rt := _, bk := _, ct := _, iv := _ }) (xs_asg ?_) ?_)
    · refine er_lc (tgt_name (by decide)) ?_
      refine ei_range ?_
      walk_at "ev"
      refine ⟨q, p, is1, b1, 4, cs0, rfl, rfl, hn1, by decide, by decide, fun t is2 b2 h2 h3 hn2 => ?_⟩
      walk_at "ev"
      refine ⟨t, rfl, by omega, by omega, fun i acc cs2 => acc.length = i ∧ i ≤ t.toNat ∧ (∀ x ∈ acc, PV1 K x) ∧ ∃ (is : List Int) (b : Int), cs2 = dealC q p is b ++ cs0 ∧ NN is, ⟨rfl, Nat.zero_le _, fun x hx => (by cases hx), is2, b2, rfl, hn2⟩, ?_, ?_⟩
      · rintro i d acc cs2 u hd ⟨hl, hi, hac, is, b, rfl, hn⟩
        obtain ⟨hi', rfl⟩ := rangeD_get hd
        walk_at "ev"
        refine ⟨fun _ => ?_, fun h => absurd h.symm Bool.false_ne_true⟩
        walk_at "ev"
        have en : ((n : Int) - 1) = ((n - 1 : Nat) : Int) := by omega
        rw [en]
        refine ⟨q, p, is, b, n - 1, cs0 ++ [(u, .lst acc)], x, rfl, by rw [← List.append_assoc], hn, by omega, hx, hi0, fun d is' b' hd' hn' => ?_⟩
        refine ⟨dealC q p is' b' ++ cs0, by rw [← List.append_assoc], small1000 (by omega), by rw [List.length_append, hl]; rfl, by omega, ?_, is', b', rfl, hn'⟩
        intro y hy
        rcases List.mem_append.mp hy with hy | hy
        · exact hac y hy
        · rw [List.mem_singleton.mp hy]
          exact hd'.one
      · rintro acc cs2 ⟨hl, hi, hac, is, b, rfl, hn⟩
        exact ⟨acc, is, b, hac, by omega, hn, rfl, rfl⟩
    · rintro Δ cs ⟨l, is, b, hac, hl, hn, rfl, rfl⟩
      walk_at "ev"
      refine lv_bl ⟨fun _ => ?_, fun _ => ?_⟩
      · walk_at "ev"
        exact fin rfl (pw_lst hac hl) hn
      · walk_at "ev"
        exact fin rfl (pw_tup hac hl) hn
  refine xs_ret (er_call ?_)
  walk_at "ev"
  refine er_lst ?_
  repeat (first
    | walk_at "e"
    | dsimp only
    | (refine o2_I ⟨by decide, by decide, by decide⟩ ?_)
    | (refine ⟨by decide +kernel, ?_⟩))
  refine ⟨by show 12 ≤ sizeLine; decide, ?_⟩
  walk_at "ev"
  refine ⟨q, p, is1, b1, cs0, anyL x, rfl, rfl, hn1, List.cons_ne_nil _ _, by show 12 ≤ 1000; decide, fun i d is' b' hd hn' => ?_⟩
  exact fin rfl (any_ok hx hi0 d (List.mem_of_getElem? hd)) hn'
def c_lis (K : PySem.W.Frag) : Tr := fun ds cs R _ => ∃ d, ds = [d] ∧ PV1 K d ∧ R (.bl (isStickD d)) cs
theorem notStick {d : D} (h : isStrD d = false) : isStickD d = false := by
  match d, h with
  | .raw .non, _ => rfl
  | .raw (.bl _), _ => rfl
  | .raw (.int _), _ => rfl
  | .raw (.byt _), _ => rfl
  | .raw (.flt _), _ => rfl
  | .raw (.ref _), _ => rfl
  | .raw (.ty _), _ => rfl
  | .tup _, _ => rfl
  | .lst _, _ => rfl
  | .ro _, _ => rfl
  | .obj _ _ _, _ => rfl
  | .exc _ _ _ _, _ => rfl
theorem sgn_ne {z : Str} (h : ¬ z = "") : (sgn z).isEmpty = false := by
  cases hz : sgn z with
  | nil => exact absurd (sgn_nil.mp hz) h
  | cons a r => rfl
def badF : D → Bool
  | .raw v => !inV v [V.str ".", V.str "x"]
  | _ => false
theorem badF_sg (c : Nat) : badF (.str (sg c)) = !(c == 46 || c == 120) := by
  show (!((("." : Str) == sg c) || ((("x" : Str) == sg c) || false))) = _
  have hb : ∀ a : Nat, (sg a == sg c) = (c == a) := fun a => by
    rw [Bool.eq_iff_iff, beq_iff_eq, beq_iff_eq]
    constructor
    · intro h
      have e : sgn (sg a) = sgn (sg c) := by rw [h]
      have e2 : [a] = [c] := e
      exact (List.head_eq_of_cons_eq e2).symm
    · intro h
      rw [h]
  have h1 : (("." : Str) == sg c) = (c == 46) := hb 46
  have h2 : (("x" : Str) == sg c) = (c == 120) := hb 120
  rw [h1, h2, Bool.or_false]
def badS (z : Str) : List Str := ((sgn z).filter fun c => !(c == 46 || c == 120)).map sg
theorem bad_empty (z : Str) : ((badS z).map D.str).isEmpty = (sgn z).all fun c => c == 46 || c == 120 := by
  unfold badS
  rw [List.isEmpty_map, List.isEmpty_map]
  generalize sgn z = l
  induction l with
  | nil => rfl
  | cons a r ih =>
    rw [List.filter_cons, List.all_cons, ← ih]
    cases (a == 46 || a == 120) <;> rfl
theorem signs_bad (z : Str) : ((signsD z).filter badF).map (fun d => d) = (badS z).map D.str := by
  unfold signsD badS
  rw [List.map_id', List.map_map, List.filter_map]
  congr 1
  refine List.filter_congr fun c _ => ?_
  exact badF_sg c
theorem sc__law_is_stick : FnScope ["_law_value", "_law_sign"] ["_law_value"] (defScope s__law_is_stick) := ⟨rfl, rfl, rfl, by decide +kernel, rfl, by decide +kernel, by decide +kernel⟩
set_option maxHeartbeats 4000000 in
theorem ok__law_is_stick (T : Txt K mg) : FnOk P w K mg base CX0 14 T.a__law_is_stick T.d__law_is_stick ["_law_value"] (spA K (c_lis K)) := by
  have G__law_any := ok__law_any (P := P) (w := w) (base := base) T 10
  refine T.F__law_is_stick.ok sc__law_is_stick (spA_len (F := (c_lis K)) (by rintro ds cs R X ⟨_, rfl, _⟩; rfl)) (fun cdv A outer s H vs Q E hr h => ?_)
  have hu := hu_of hr
  refine ⟨_, (pss_one (ps_ret (pe_and (pe_callB (kcall_isi (K := K) rfl) (by rfl) T.n_isinstance (by decide +kernel) (pa_cons (pv 0) (pa_cons (pe_bltn (v := .ty "str") (by rfl) T.n_str (by decide +kernel) rfl) pa_nil))) (pe_and (pe_cmpR op_ne (pv 0) pe_str (nomark _)) (pe_one (pe_cmpR (kop_eqD (K := K) rfl hr.units) (pe_lc (own := [("_law_sign", 1)]) (g := _) (tt := _) rfl sc__law_is_stick.nd (pi_str (pv 0)) (blkOk_by (N := ["_law_value", "_law_sign"]) (sc := defScope s__law_is_stick) (by decide +kernel)) (fun _ _ _ _ _ => (pg_name (i := 1) sc__law_is_stick.nd rfl (by first | exact .inl rfl | exact .inr rfl))) (fun _ _ _ _ _ => (pts_one (pt_cmpR (kop_notIn (K := K) rfl) (pv 1) (pe_tup (pa_cons pe_str (pa_cons pe_str pa_nil))) (by rfl)))) (fun _ _ _ _ _ => (pv 1))) (pe_lst pa_nil) (nomark _))))))), ?_⟩
  refine enter h (fun ds cs R X G f xq => ?_)
  clear h xq
  try dsimp only [cxOf, Cx.nox, Cx.wish]
  obtain ⟨d, rfl, ⟨ty, hl, hy⟩, kk⟩ := f
  show Xs K _ _ [some d, none] cs
  have fin : ∀ {v : Bool}, v = isStickD d → ∃ n, R (.bl v) (cs.take n) := fun e => ⟨cs.length, by rw [List.take_length, e]; exact kk⟩
  rcases ty with ⟨n, tn⟩ | ⟨C, ns, xs, rfl, ow⟩
  rotate_left
  · refine xs_ret (er_andV (er_cb (ea_cons (er_var rfl (ea_cons (er_c (ea_nil ?_)))))))
    refine oa_isStrW (.own C ns xs rfl ow) ?_
    exact lv_bool (fun h => absurd (show false = true from h) Bool.false_ne_true) (fun _ => fin rfl)
  walk_at "ev"
  refine lv_bool (fun h1 => ?_) (fun h1 => fin (notStick h1).symm)
  obtain ⟨z, rfl⟩ := str_of h1
  have hz := hl z rfl
  have yz := hy z rfl
  walk_at "ev"
  refine lv_bool (fun h2 => ?_) (fun h2 => ?_)
  · have hne : ¬ z = "" := by simpa using h2
    walk_at "ev"
    refine er_lcP badF (fun d => d) (tgt_name (by decide)) ?_
    refine ei_str ?_
    walk_at "ev"
    refine ⟨z, rfl, by unfold signsD; rw [List.length_map]; have := sgn_len z; unfold sgn at this; omega, fun q d acc p2 hd => ?_, ?_⟩
    · unfold signsD at hd
      rw [List.getElem?_map] at hd
      cases hq : z.cps.toList[q]? with
      | none => rw [hq] at hd; cases hd
      | some c =>
        rw [hq] at hd
        cases hd
        walk_at "ev"
        refine ⟨by show 2 ≤ sizeLine; decide, ?_⟩
        show O2 K (rIn K true) (D.raw (V.str (sg c))) (.tup ([V.str ".", V.str "x"].map D.raw)) _ _
        refine o2_inT rfl rfl (lv_bl ⟨fun h => ⟨h, ?_⟩, fun h => ⟨h, rfl⟩⟩)
        walk_at "ev"
        exact ⟨rfl, rfl⟩
    · rw [signs_bad]
      refine er_lst ?_
      walk_at "ev"
      refine ⟨by decide +kernel, o2_eqNil ?_ ?_⟩
      · refine flat_strs fun s hs => ?_
        unfold badS at hs
        obtain ⟨c, hc, rfl⟩ := List.mem_map.mp hs
        refine lay_str fun c2 hc2 => ?_
        have : c2 = c := List.mem_singleton.mp hc2
        rw [this]
        exact str_lay yz c (List.mem_filter.mp hc).1
      · rw [bad_empty]
        refine fin ?_
        show _ = (!(sgn z).isEmpty && _)
        rw [sgn_ne hne]
        rfl
  · have hne : z = "" := by simpa using h2
    subst hne
    exact fin rfl
def c_ldue (K : PySem.W.Frag) : Tr := fun ds cs R _ => ∃ d, ds = [d] ∧ PW K d ∧ R (optD (oI (dueO d))) cs
theorem sc__law_due : FnScope ["_law_value", "_law_at", "_law_check"] ["_law_value"] (defScope s__law_due) := ⟨rfl, rfl, rfl, by decide +kernel, rfl, by decide +kernel, by decide +kernel⟩
set_option maxHeartbeats 4000000 in
theorem ok__law_due (T : Txt K mg) : FnOk P w K mg base CX0 15 T.a__law_due T.d__law_due ["_law_value"] (spA K (c_ldue K)) := by
  have G__law_is_stick := ok__law_is_stick (P := P) (w := w) (base := base) T
  have G__law_any := ok__law_any (P := P) (w := w) (base := base) T 10
  have G_first_misfit := ok_first_misfit (P := P) (w := w) (base := base) T
  refine T.F__law_due.ok sc__law_due (spA_len (F := (c_ldue K)) (by rintro ds cs R X ⟨_, rfl, _⟩; rfl)) (fun cdv A outer s H vs Q E hr h => ?_)
  have hu := hu_of hr
  refine ⟨_, (pss_cons (ps_if (PW.pt (pw_or (pt_not (pt_val (pe_callB (kcall_isiT (K := K) rfl) (by rfl) T.n_isinstance (by decide +kernel) (pa_cons (pv 0) (pa_cons (pe_tup (pa_cons (pe_bltn (v := .ty "list") (by rfl) T.n_list (by decide +kernel) rfl) (pa_cons (pe_bltn (v := .ty "tuple") (by rfl) T.n_tuple (by decide +kernel) rfl) pa_nil))) pa_nil))))) (pw_or1 (pt_cmpR op_eq (pe_callB (kcall_len (K := K) rfl) (by rfl) T.n_len PySem.boot_len (pa_cons (pv 0) pa_nil)) pe_int (nomark _))))) (pss_one (ps_ret pe_int)) pss_nil)
    (pss_cons (ps_for PassesOwn.never rfl (pi_or (kpi_enum (K := K) rfl (by rfl) T.n_enumerate (pa_cons (pv 0) pa_nil)) (pi_enumT rfl (by rfl) T.n_enumerate (pa_cons (pv 0) pa_nil))) (kpg_tup (K := K) (n := 2) rfl rfl (pgs_cons (pg_name (i := 1) sc__law_due.nd rfl (by first | exact .inl rfl | exact .inr rfl)) (pgs_cons (pg_name (i := 2) sc__law_due.nd rfl (by first | exact .inl rfl | exact .inr rfl)) pgs_nil)))
    (pss_one (ps_if (PW.pt (pw_or (pt_not (pt_val (pe_call G__law_is_stick (hr.mono (by decide)) rfl T.g__law_is_stick T.F__law_is_stick.kp T.b__law_is_stick .nil pass0 (pa_cons (pv 2) pa_nil)))) (pw_or1 (pt_cmpR op_ne (pe_callB (kcall_len (K := K) rfl) (by rfl) T.n_len PySem.boot_len (pa_cons (pv 2) pa_nil)) (pe_callB (kcall_len (K := K) rfl) (by rfl) T.n_len PySem.boot_len (pa_cons (pe_ix (ix_any (K := K) rfl) (pv 0) pe_int (fun _ _ => rfl)) pa_nil)) (nomark _))))) (pss_one (ps_ret (pv 1))) pss_nil)))
    (pss_one (ps_ret pe_non)))), ?_⟩
  refine enter h (fun ds cs R X G f xq => ?_)
  clear h xq
  try dsimp only [cxOf, Cx.nox, Cx.wish]
  obtain ⟨d, rfl, pw, kk⟩ := f
  show Xs K _ _ [some d, none, none] cs
  by_cases hs : (isListD d || isTupD d) = true
  rotate_left
  · have hs2 : (isListD d || isTupD d) = false := by simpa using hs
    refine xs_guard (B := true) (C := cs) ?_ (fun _ => ?_) (fun h => absurd h.symm Bool.false_ne_true)
    · refine et_or (et_not (et_B (er_isSeqW (er_var rfl ⟨pw.one.ty, lv_bl ⟨fun _ => ⟨rfl, rfl⟩, fun h => ?_⟩⟩))))
      rw [hs2] at h
      cases h
    · walk_at "ev"
      refine ⟨cs.length, ?_⟩
      rw [due_no hs2] at kk
      rw [List.take_length]
      exact kk
  rcases seq_of hs with e | e
  · generalize itemsD d = xs at e
    subst e
    refine xs_guard (B := xs.isEmpty) (C := cs) ?_ (fun h => ?_) (fun h => ?_)
    · refine et_or (et_not (et_B (er_isSeqW (er_var rfl ⟨pw.one.ty, lv_bl ⟨fun h => absurd (show false = true from h) Bool.false_ne_true, fun _ => ?_⟩⟩))))
      walk_at "ev"
      have e : (xs.length : Int) = 0 ↔ xs.isEmpty = true := by rw [List.isEmpty_iff, ← List.length_eq_zero_iff]; omega
      refine lv_bl ⟨?_, rfl⟩
      rw [Bool.eq_iff_iff, decide_eq_true_iff]
      exact e
    · walk_at "ev"
      refine ⟨cs.length, ?_⟩
      have : xs = [] := List.isEmpty_iff.mp h
      subst this
      rw [List.take_length]
      exact kk
    rw [due_lst h] at kk
    have hne : 1 ≤ xs.length := by
      cases xs with
      | nil => cases h
      | cons a r => exact Nat.succ_le_succ (Nat.zero_le _)
    have items : ∀ x ∈ xs, PV1 K x := pw.items
    have few : xs.length ≤ 40 := pw.few
    refine xs_cut (M := fun Δ cs' => (∃ x y, Δ = [some (.lst xs), x, y]) ∧ misfit xs = none ∧ cs' = cs) ?_ ?_
    rotate_left
    · rintro Δ cs' ⟨⟨x, y, rfl⟩, hm, rfl⟩
      walk_at "ev"
      refine ⟨cs'.length, ?_⟩
      rw [List.take_length]
      rw [hm] at kk
      exact kk
    refine xs_for (ei_or1 (ei_enum ?_))
    walk_at "ev"
    refine ⟨_, rfl, fun i Δ cs' => (∃ x y, Δ = [some (.lst xs), x, y]) ∧ (∀ j, j < i → okAt xs j = true) ∧ cs' = cs, ⟨⟨_, _, rfl⟩, fun j hj => absurd hj (Nat.not_lt_zero _), rfl⟩, ?_, ?_⟩
    rotate_left
    · rintro Δ cs' ⟨⟨x, y, rfl⟩, ho, rfl⟩
      have hl : (enumD xs).length = xs.length := by simp [enumD]
      rw [hl] at ho
      exact ⟨⟨_, _, rfl⟩, mis_no ho, rfl⟩
    rintro i d Δ cs' hd ⟨⟨x, y, rfl⟩, ho, rfl⟩
    obtain ⟨it, hit, rfl⟩ := enumG hd
    clear hd
    have hi : i < xs.length := (List.getElem?_eq_some_iff.mp hit).1
    have pit := items it (List.mem_of_getElem? hit)
    refine gg_tup rfl (ggs_cons (gg_name (ggs_cons (gg_name (ggs_nil ?_)))))
    show Xs K _ _ [some (.lst xs), some (.int i), some it] cs'
    have bad : okAt xs i = false → ∃ n, R (.int i) (cs'.take n) := fun hb => by
      refine ⟨cs'.length, ?_⟩
      rw [List.take_length]
      rw [mis_at hi hb ho] at kk
      exact kk
    have good : okAt xs i = true → (∃ x' y', [some (D.lst xs), some (.int i), some it] = [some (D.lst xs), x', y']) ∧ (∀ j, j < i + 1 → okAt xs j = true) ∧ cs' = cs' := fun hg => ⟨⟨_, _, rfl⟩, fun j hj => by
      by_cases e : j = i
      · rw [e]; exact hg
      · exact ho j (by omega), rfl⟩
    refine xs_guard0 (B := !okAt xs i) ?_ (fun hb => ?_) (fun hb => ?_)
    rotate_left
    · walk_at "ev"
      exact bad (by simpa using hb)
    · exact xs_next (good (by simpa using hb))
    have first : ∀ z, it = .str z → isStickS z = true → ∃ z0, xs[0]? = some (.str z0) ∧ z0.length ≤ 300 := fun z ez hz => by
      by_cases e : i = 0
      · subst e
        subst ez
        exact ⟨z, hit, pit.len z rfl⟩
      · obtain ⟨z0, _, e0, _, _, _⟩ := okAt_of (ho 0 (by omega))
        exact ⟨z0, e0, (items _ (List.mem_of_getElem? e0)).len z0 rfl⟩
    walk_at "ev"
    refine ⟨it, rfl, pit, lv_bl ⟨fun hs' => ?_, fun hs' => ?_⟩⟩
    · have hs : isStickD it = false := by simpa using hs'
      refine ⟨?_, rfl⟩
      rw [okAt_bad hit hs]
      rfl
    have hs : isStickD it = true := by simpa using hs'
    · obtain ⟨z, rfl, hz⟩ := stickD_str hs
      obtain ⟨z0, e0, l0⟩ := first z rfl hz
      have lz := pit.len z rfl
      walk_at "ev"
      refine oa_lenS (small_line (by omega)) ?_
      walk_at "ev"
      refine o2_ixAL (atI_of (j := 0) rfl e0) ?_
      walk_at "ev"
      refine oa_lenS (small_line (by omega)) ?_
      walk_at "ev"
      refine lv_bl ⟨?_, rfl⟩
      rw [okAt_eq hit e0, hz, Bool.true_and]
      show (!decide ((z.length : Int) = (z0.length : Int))) = !decide (z.length = z0.length)
      rw [show decide ((z.length : Int) = (z0.length : Int)) = decide (z.length = z0.length) from dec_congr (by omega)]
    skip
  · generalize itemsD d = xs at e
    subst e
    refine xs_guard (B := xs.isEmpty) (C := cs) ?_ (fun h => ?_) (fun h => ?_)
    · refine et_or (et_not (et_B (er_isSeqW (er_var rfl ⟨pw.one.ty, lv_bl ⟨fun h => absurd (show false = true from h) Bool.false_ne_true, fun _ => ?_⟩⟩))))
      walk_at "ev"
      have e : (xs.length : Int) = 0 ↔ xs.isEmpty = true := by rw [List.isEmpty_iff, ← List.length_eq_zero_iff]; omega
      refine lv_bl ⟨?_, rfl⟩
      rw [Bool.eq_iff_iff, decide_eq_true_iff]
      exact e
    · walk_at "ev"
      refine ⟨cs.length, ?_⟩
      have : xs = [] := List.isEmpty_iff.mp h
      subst this
      rw [List.take_length]
      exact kk
    rw [due_tup h] at kk
    have hne : 1 ≤ xs.length := by
      cases xs with
      | nil => cases h
      | cons a r => exact Nat.succ_le_succ (Nat.zero_le _)
    have items : ∀ x ∈ xs, PV1 K x := pw.items
    have few : xs.length ≤ 40 := pw.few
    refine xs_cut (M := fun Δ cs' => (∃ x y, Δ = [some (.tup xs), x, y]) ∧ misfit xs = none ∧ cs' = cs) ?_ ?_
    rotate_left
    · rintro Δ cs' ⟨⟨x, y, rfl⟩, hm, rfl⟩
      walk_at "ev"
      refine ⟨cs'.length, ?_⟩
      rw [List.take_length]
      rw [hm] at kk
      exact kk
    refine xs_for (ei_or2 (ei_enumT ?_))
    walk_at "ev"
    refine ⟨_, rfl, fun i Δ cs' => (∃ x y, Δ = [some (.tup xs), x, y]) ∧ (∀ j, j < i → okAt xs j = true) ∧ cs' = cs, ⟨⟨_, _, rfl⟩, fun j hj => absurd hj (Nat.not_lt_zero _), rfl⟩, ?_, ?_⟩
    rotate_left
    · rintro Δ cs' ⟨⟨x, y, rfl⟩, ho, rfl⟩
      have hl : (enumD xs).length = xs.length := by simp [enumD]
      rw [hl] at ho
      exact ⟨⟨_, _, rfl⟩, mis_no ho, rfl⟩
    rintro i d Δ cs' hd ⟨⟨x, y, rfl⟩, ho, rfl⟩
    obtain ⟨it, hit, rfl⟩ := enumG hd
    clear hd
    have hi : i < xs.length := (List.getElem?_eq_some_iff.mp hit).1
    have pit := items it (List.mem_of_getElem? hit)
    refine gg_tup rfl (ggs_cons (gg_name (ggs_cons (gg_name (ggs_nil ?_)))))
    show Xs K _ _ [some (.tup xs), some (.int i), some it] cs'
    have bad : okAt xs i = false → ∃ n, R (.int i) (cs'.take n) := fun hb => by
      refine ⟨cs'.length, ?_⟩
      rw [List.take_length]
      rw [mis_at hi hb ho] at kk
      exact kk
    have good : okAt xs i = true → (∃ x' y', [some (D.tup xs), some (.int i), some it] = [some (D.tup xs), x', y']) ∧ (∀ j, j < i + 1 → okAt xs j = true) ∧ cs' = cs' := fun hg => ⟨⟨_, _, rfl⟩, fun j hj => by
      by_cases e : j = i
      · rw [e]; exact hg
      · exact ho j (by omega), rfl⟩
    refine xs_guard0 (B := !okAt xs i) ?_ (fun hb => ?_) (fun hb => ?_)
    rotate_left
    · walk_at "ev"
      exact bad (by simpa using hb)
    · exact xs_next (good (by simpa using hb))
    have first : ∀ z, it = .str z → isStickS z = true → ∃ z0, xs[0]? = some (.str z0) ∧ z0.length ≤ 300 := fun z ez hz => by
      by_cases e : i = 0
      · subst e
        subst ez
        exact ⟨z, hit, pit.len z rfl⟩
      · obtain ⟨z0, _, e0, _, _, _⟩ := okAt_of (ho 0 (by omega))
        exact ⟨z0, e0, (items _ (List.mem_of_getElem? e0)).len z0 rfl⟩
    walk_at "ev"
    refine ⟨it, rfl, pit, lv_bl ⟨fun hs' => ?_, fun hs' => ?_⟩⟩
    · have hs : isStickD it = false := by simpa using hs'
      refine ⟨?_, rfl⟩
      rw [okAt_bad hit hs]
      rfl
    have hs : isStickD it = true := by simpa using hs'
    · obtain ⟨z, rfl, hz⟩ := stickD_str hs
      obtain ⟨z0, e0, l0⟩ := first z rfl hz
      have lz := pit.len z rfl
      walk_at "ev"
      refine oa_lenS (small_line (by omega)) ?_
      walk_at "ev"
      refine o2_ixAT (atI_of (j := 0) rfl e0) ?_
      walk_at "ev"
      refine oa_lenS (small_line (by omega)) ?_
      walk_at "ev"
      refine lv_bl ⟨?_, rfl⟩
      rw [okAt_eq hit e0, hz, Bool.true_and]
      show (!decide ((z.length : Int) = (z0.length : Int))) = !decide (z.length = z0.length)
      rw [show decide ((z.length : Int) = (z0.length : Int)) = decide (z.length = z0.length) from dec_congr (by omega)]
    skip
def c_lref (K : PySem.W.Frag) : Tr := fun ds cs R _ => ∃ d, ds = [d] ∧ PW K d ∧ R (optD (oI (dueO d))) cs
theorem sc__law_refused : FnScope ["_law_value", "_law_found", "e"] ["_law_value"] (defScope s__law_refused) := ⟨rfl, rfl, rfl, by decide +kernel, rfl, by decide +kernel, by decide +kernel⟩
set_option maxHeartbeats 4000000 in
theorem ok__law_refused (T : Txt K mg) : FnOk P w K mg base CX0 14 T.a__law_refused T.d__law_refused ["_law_value"] (spA K (c_lref K)) := by
  have G_CheckRule___init__ := ok_CheckRule___init__ (P := P) (w := w) (base := base) T
  have G__law_any := ok__law_any (P := P) (w := w) (base := base) T 10
  have G_first_misfit := ok_first_misfit (P := P) (w := w) (base := base) T
  refine T.F__law_refused.ok sc__law_refused (spA_len (F := (c_lref K)) (by rintro ds cs R X ⟨_, rfl, _⟩; rfl)) (fun cdv A outer s H vs Q E hr h => ?_)
  have hu := hu_of hr
  refine ⟨_, (pss_cons (ps_set (i := 1) sc__law_refused.nd rfl (by first | exact .inl rfl | exact .inr rfl) pe_non)
    (pss_cons (ps_try_as (i := 2) (Wout := fun _ _ _ _ => False) rfl rfl sc__law_refused.nd rfl rfl ⟨rfl, by decide, Or.inl T.g_InvalidRule⟩ takes0 (fun W pn xe tk _ => pss_one (ps_expr (pe_makeW T.mk_CheckRule G_CheckRule___init__ (hr.mono (by decide)) (by rfl) T.g_CheckRule T.b_CheckRule___init__ .nil (fun σ => passAt tk σ) (pa_cons (pv 0) pa_nil)))) (fun a oe cls d pn hz hf => pss_pre (P := cls = .ref T.C_InvalidRule) (fun hp => (pss_one (ps_set (i := 1) sc__law_refused.nd rfl (by first | exact .inl rfl | exact .inr rfl) (pe_ifExp (PW.pt (pw_and (pt_val (pe_callB (call_isF2 T.e_InvalidRule hz hp hf) (by rfl) T.n_isinstance (by decide +kernel) (pa_cons (pv 2) (pa_cons (pe_glob (v := .ref T.C_StickError) rfl T.g_StickError rfl) pa_nil)))) (pw_and1 (pt_not (pt_val (pe_callB (call_isF2 T.e_InvalidRule hz hp hf) (by rfl) T.n_isinstance (by decide +kernel) (pa_cons (pv 2) (pa_cons (pe_glob (v := .ref T.C_InvalidText) rfl T.g_InvalidText rfl) pa_nil)))))))) (pe_xf T.xf_InvalidRule T.nf_InvalidRule hz hf (pv 2)) pe_str))))))
    (pss_one (ps_ret (pv 1))))), ?_⟩
  refine enter h (fun ds cs R X G f xq => ?_)
  clear h xq
  try dsimp only [cxOf, Cx.nox, Cx.wish]
  obtain ⟨d, rfl, pw, kk⟩ := f
  show Xs K _ _ [some d, none, none] cs
  refine xs_seqAsg (d := .non) (C := cs) (er_c ⟨rfl, rfl⟩) ?_
  refine xs_cut (M := fun Δ cs' => ∃ n, Δ = [some d, some (optD (oI (dueO d))), none] ∧ cs'.take n = cs) (xs_tryMake ?_) ?_
  rotate_left
  · rintro Δ cs' ⟨n, rfl, hcs⟩
    walk_at "ev"
    refine ⟨n, ?_⟩
    rw [hcs]
    exact kk
  walk_at "ev"
  intro p
  refine ⟨p, cs, d, rfl, rfl, pw, fun n e1 => ?_, fun e1 => ?_⟩
  · refine ⟨T.te_InvalidRule, fun p2 => ⟨fun z => absurd z (List.cons_ne_nil _ _), fun _ dx => ?_⟩⟩
    refine xs_pre rfl ?_
    show Xs K _ _ [some d, some .non, some (.exc p2 dx ["at"] [.int n])] cs
    walk_at "ev"
    refine oa_isF T.kx_InvalidRule_StickError ?_
    refine lv_bool (fun _ => ?_) (fun h => absurd h.symm Bool.false_ne_true)
    walk_at "ev"
    refine oa_isF T.kx_InvalidRule_InvalidText ?_
    refine lv_bl ⟨fun _ => ?_, fun h => absurd h.symm Bool.false_ne_true⟩
    walk_at "ev"
    refine er_xf ?_
    walk_at "ev"
    refine ⟨_, _, _, rfl, rfl, cs.length, ?_, List.take_length⟩
    rw [e1]
    rfl
  · refine ⟨rfl, cs.length, ?_, List.take_left' rfl⟩
    rw [e1]
    rfl
def c_lunp {K : PySem.W.Frag} {mg : Str → Option Value} (T : Txt K mg) : Tr := fun ds cs R _ => ∃ cks w d, ds = [ruleD T cks, d] ∧ RuleOk cks w ∧ PV1 K d ∧ R (.bl (!isStickD d)) cs
theorem sc__law_unput : FnScope ["_law_made", "_law_value", "_law_found", "e"] ["_law_made", "_law_value"] (defScope s__law_unput) := ⟨rfl, rfl, rfl, by decide +kernel, rfl, by decide +kernel, by decide +kernel⟩
set_option maxHeartbeats 4000000 in
theorem ok__law_unput (T : Txt K mg) : FnOk P w K mg base CX0 14 T.a__law_unput T.d__law_unput ["_law_made", "_law_value"] (spA K (c_lunp T)) := by
  have G_CheckRule_put := ok_CheckRule_put (P := P) (w := w) (base := base) T
  have G__law_any := ok__law_any (P := P) (w := w) (base := base) T 10
  refine T.F__law_unput.ok sc__law_unput (spA_len (F := (c_lunp T)) (by rintro ds cs R X ⟨_, _, _, rfl, _⟩; rfl)) (fun cdv A outer s H vs Q E hr h => ?_)
  have hu := hu_of hr
  refine ⟨_, (pss_cons (ps_set (i := 2) sc__law_unput.nd rfl (by first | exact .inl rfl | exact .inr rfl) pe_bl)
    (pss_cons (ps_try_as (i := 3) (Wout := fun _ _ _ _ => False) rfl rfl sc__law_unput.nd rfl rfl ⟨rfl, by decide, Or.inl T.g_InvalidStick⟩ takes0 (fun W pn xe tk _ => pss_one (ps_expr (pe_methW (pv 0) T.cl_CheckRule T.me_CheckRule_put G_CheckRule_put (hr.mono (by decide)) T.b_CheckRule_put (fun σ => passAt tk σ) (pa_cons (pv 1) pa_nil)))) (fun a oe cls d pn hz hf => pss_pre (P := cls = .ref T.C_InvalidStick ∧ d = none) (fun hp => (pss_one (ps_set (i := 2) sc__law_unput.nd rfl (by first | exact .inl rfl | exact .inr rfl) (pe_callB (call_isE2 T.e_InvalidStick hz hp hf) (by rfl) T.n_isinstance (by decide +kernel) (pa_cons (pv 3) (pa_cons (pe_glob (v := .ref T.C_StickError) rfl T.g_StickError rfl) pa_nil))))))))
    (pss_one (ps_ret (pv 2))))), ?_⟩
  refine enter h (fun ds cs R X G f xq => ?_)
  clear h xq
  try dsimp only [cxOf, Cx.nox, Cx.wish]
  obtain ⟨cks, w, d, rfl, hr0, pv, kk⟩ := f
  show Xs K _ _ [some (ruleD T cks), some d, none, none] cs
  refine xs_seqAsg (d := .bl false) (C := cs) (er_c ⟨rfl, rfl⟩) ?_
  refine xs_cut (M := fun Δ cs' => Δ = [some (ruleD T cks), some d, some (.bl (!isStickD d)), none] ∧ cs' = cs) ?_ ?_
  · refine xs_tryMethD ?_
    walk_at "ev"
    refine ⟨_, _, rfl, by decide, ?_⟩
    walk_at "ev"
    refine ⟨cks, w, d, rfl, hr0, pv, fun hX => ⟨T.te_InvalidStick, fun a => ⟨fun _ => ?_, fun h => absurd rfl h⟩⟩, fun hS y => ?_⟩
    · refine xs_pre ⟨rfl, rfl⟩ ?_
      walk_at "ev"
      refine oa_isE T.kx_InvalidStick_StickError ?_
      walk_at "ev"
      rw [hX]
      exact ⟨rfl, rfl⟩
    · rw [hS]
      exact ⟨rfl, rfl⟩
  rintro Δ cs' ⟨rfl, rfl⟩
  walk_at "ev"
  refine ⟨cs'.length, ?_⟩
  rw [List.take_length]
  exact kk
theorem cutD_len (l : List D) (lo hi : Option Int) : (cutD l lo hi).length ≤ l.length := by
  unfold cutD
  refine Nat.le_trans (List.length_take_le' _ _) ?_
  rw [List.length_drop]
  omega
theorem cutD_mem {l : List D} {lo hi : Option Int} {d : D} (h : d ∈ cutD l lo hi) : d ∈ l := List.mem_of_mem_drop (List.mem_of_mem_take h)
theorem opt_ok (o : Option Int) : okD (optD o) = true ∧ SeqAt.shaped (pdD (optD o)) = true := by
  cases o with
  | none => exact ⟨rfl, by decide +kernel⟩
  | some n => exact ⟨rfl, rfl⟩
theorem due_lt (xs : List D) : dueO (.tup xs) = dueO (.lst xs) := rfl
theorem due_rule {cks : List Str} {w : Nat} (h : RuleOk cks w) : dueO (.lst (cks.map D.str)) = none := by
  have hne := h.ne
  have e : (cks.map D.str).isEmpty = false := by
    cases cks with
    | nil => exact absurd hne (by decide)
    | cons a r => rfl
  rw [due_lst e]
  refine mis_no fun j hj => ?_
  rw [List.length_map] at hj
  obtain ⟨c, hc⟩ : ∃ c, cks[j]? = some c := ⟨_, List.getElem?_eq_getElem hj⟩
  obtain ⟨c0, hc0⟩ : ∃ c, cks[0]? = some c := ⟨_, List.getElem?_eq_getElem (by omega)⟩
  have g : (cks.map D.str)[j]? = some (.str c) := by rw [List.getElem?_map, hc]; rfl
  have g0 : (cks.map D.str)[0]? = some (.str c0) := by rw [List.getElem?_map, hc0]; rfl
  rw [okAt_eq g g0, (h.stick hc).1, (h.stick hc).2, (h.stick hc0).2, decide_eq_true rfl]
  rfl
theorem dr_lay {n : Nat} {z : Str} (h : Dr n z) : ∀ c ∈ sgn z, c < 128 := fun c hc => by
  have h2 := List.all_eq_true.mp h.ok c hc
  have h3 : c = 46 ∨ c = 120 := by simpa [sgnOk] using h2
  omega
theorem lay_of {z : Str} (h : ∀ c ∈ sgn z, c < 128) : PyData.canLay0 (.str z) = true := lay_str fun c hc => by
  have := h c hc
  omega
theorem rule_p1 {K : PySem.W.Frag} {cks : List Str} {w : Nat} (h : RuleOk cks w) : ∀ x ∈ cks.map D.str, PV1 K x := fun x hx => by
  obtain ⟨c, hc, rfl⟩ := List.mem_map.mp hx
  have dr := h.each c hc
  have := h.w2
  exact p1_str (by rw [dr.sz]; omega) (lay_of (dr_lay dr))
theorem rule_pw {K : PySem.W.Frag} {cks : List Str} {w : Nat} (h : RuleOk cks w) : PW K (.lst (cks.map D.str)) := pw_lst (rule_p1 h) (by rw [List.length_map]; have := h.le; omega)
theorem rule_pwT {K : PySem.W.Frag} {cks : List Str} {w : Nat} (h : RuleOk cks w) : PW K (.tup (cks.map D.str)) := pw_tup (rule_p1 h) (by rw [List.length_map]; have := h.le; omega)
theorem made_p1 {K : PySem.W.Frag} {mg : Str → Option Value} (T : Txt K mg) (cks : List Str) : PV1 K (ruleD T cks) := ⟨.own _ _ _ rfl T.ow_CheckRule, fun s e => (by cases e), fun s e => (by cases e)⟩
theorem mis_lt : ∀ {n i p : Nat} {f : Nat → Bool}, seekB f n i = some p → p < i + n
  | 0, _, _, _, h => by cases h
  | n + 1, i, p, f, h => by
    unfold seekB at h
    split at h
    · cases h; omega
    · have := mis_lt h
      omega
theorem due_small {K : PySem.W.Frag} {d : D} (h : PW K d) : ∀ i, oI (dueO d) = some i → i.natAbs.log2 < 1920 := fun i e => by
  have key : ∀ n : Nat, dueO d = some n → n ≤ 40 := fun n hn => by
    unfold dueO at hn
    split at hn
    · split at hn
      · cases hn; omega
      · have := mis_lt (show seekB _ _ _ = some n from hn)
        have := h.few
        omega
    · cases hn; omega
  cases hd : dueO d with
  | none => rw [hd] at e; cases e
  | some n =>
    rw [hd] at e
    cases e
    have := key n hd
    refine Nat.lt_of_le_of_lt (Nat.log2_le_self _) ?_
    show ((n : Int)).natAbs < 1920
    omega
theorem sc_law : FnScope ["_law_script", "_law_base", "_law_deal_here", "_law_turn", "_law_value", "_law_checks", "_law_made", "_law_at", "_law_odd", "_law_bent"] ["_law_script"] (defScope s_law) := ⟨rfl, rfl, rfl, by decide +kernel, rfl, by decide +kernel, by decide +kernel⟩
set_option maxHeartbeats 4000000 in
theorem ok_law (T : Txt K mg) : FnOk P w K mg base CX0 16 T.a_law T.d_law ["_law_script"] (spA K c_law) := by
  have G__law_deal := ok__law_deal (P := P) (w := w) (base := base) T
  have G__law_rule := ok__law_rule (P := P) (w := w) (base := base) T
  have G_CheckRule___init__ := ok_CheckRule___init__ (P := P) (w := w) (base := base) T
  have G__law_draw := ok__law_draw (P := P) (w := w) (base := base) T
  have G__law_any := ok__law_any (P := P) (w := w) (base := base) T 10
  have G__law_refused := ok__law_refused (P := P) (w := w) (base := base) T
  have G__law_due := ok__law_due (P := P) (w := w) (base := base) T
  have G__law_unput := ok__law_unput (P := P) (w := w) (base := base) T
  have G__law_is_stick := ok__law_is_stick (P := P) (w := w) (base := base) T
  have G__law_pick := ok__law_pick (P := P) (w := w) (base := base) T
  refine T.F_law.ok sc_law (spA_len (F := c_law) (by rintro ds cs R X ⟨_, rfl, _⟩; rfl)) (fun cdv A outer s H vs Q E hr h => ?_)
  have hu := hu_of hr
  refine ⟨_, (pss_cons (ps_for PassesOwn.never rfl (pi_range1 (by rfl) T.n_range (pa_cons (pe_callB (kcall_max2 rfl) (by rfl) T.n_max (by decide +kernel) (pa_cons pe_int (pa_cons (pe_callB (kcall_min2 rfl) (by rfl) T.n_min (by decide +kernel) (pa_cons pe_int (pa_cons (pe_callB (kcall_len (K := K) rfl) (by rfl) T.n_len PySem.boot_len (pa_cons (pv 0) pa_nil)) pa_nil))) pa_nil))) pa_nil)) (pg_name (i := 1) sc_law.nd rfl (by first | exact .inl rfl | exact .inr rfl))
    (pss_cons (ps_set (i := 2) sc_law.nd rfl (by first | exact .inl rfl | exact .inr rfl) (pe_call G__law_deal (hr.mono (by decide)) rfl T.g__law_deal T.F__law_deal.kp T.b__law_deal .nil pass0 (pa_cons (pv 0) (pa_cons (pv 1) pa_nil))))
    (pss_cons (ps_for PassesOwn.never rfl (pi_range1 (by rfl) T.n_range (pa_cons pe_int pa_nil)) (pg_name (i := 3) sc_law.nd rfl (by first | exact .inl rfl | exact .inr rfl))
    (pss_cons (ps_set (i := 5) sc_law.nd rfl (by first | exact .inl rfl | exact .inr rfl) (pe_call G__law_rule (hr.mono (by decide)) rfl T.g__law_rule T.F__law_rule.kp T.b__law_rule .nil pass0 (pa_cons (pv 2) (pa_cons pe_int (pa_cons pe_int pa_nil)))))
    (pss_cons (ps_set (i := 6) sc_law.nd rfl (by first | exact .inl rfl | exact .inr rfl) (pe_make T.mk_CheckRule G_CheckRule___init__ (hr.mono (by decide)) rfl T.g_CheckRule T.b_CheckRule___init__ .nil pass_never (pa_cons (pv 5) pa_nil)))
    (pss_cons (ps_if (pt_cmp (pc_notN (pe_call G__law_refused (hr.mono (by decide)) rfl T.g__law_refused T.F__law_refused.kp T.b__law_refused .nil pass0 (pa_cons (pv 5) pa_nil)))) (pss_one (ps_ret pe_bl)) pss_nil)
    (pss_cons (ps_if (pt_cmp (pc_notN (pe_call G__law_refused (hr.mono (by decide)) rfl T.g__law_refused T.F__law_refused.kp T.b__law_refused .nil pass0 (pa_cons (pe_callTy (kcall_tup (K := K) rfl) (by rfl) T.n_tuple (by decide +kernel) (pa_cons (pv 5) pa_nil)) pa_nil)))) (pss_one (ps_ret pe_bl)) pss_nil)
    (pss_cons (ps_set (i := 7) sc_law.nd rfl (by first | exact .inl rfl | exact .inr rfl) (pe_call G__law_draw (hr.mono (by decide)) rfl T.g__law_draw T.F__law_draw.kp T.b__law_draw .nil pass0 (pa_cons (pv 2) (pa_cons (pe_op op_add (pe_callB (kcall_len (K := K) rfl) (by rfl) T.n_len PySem.boot_len (pa_cons (pv 5) pa_nil)) pe_int) pa_nil))))
    (pss_cons (ps_set (i := 8) sc_law.nd rfl (by first | exact .inl rfl | exact .inr rfl) (pe_lst (pa_cons pe_non (pa_cons pe_str (pa_cons (pe_op op_add_str (pe_ix (kix_list (K := K) rfl) (pv 5) pe_int (fun _ _ => rfl)) pe_str) (pa_cons pe_int (pa_cons (pe_lst (pa_cons (pe_ix (kix_list (K := K) rfl) (pv 5) pe_int (fun _ _ => rfl)) pa_nil)) (pa_cons pe_bl (pa_cons pe_str (pa_cons (pe_tup (pa_cons (pe_ix (kix_list (K := K) rfl) (pv 5) pe_int (fun _ _ => rfl)) pa_nil)) (pa_cons (pv 6) (pa_cons (pe_op op_add_str (pe_ix (kix_list (K := K) rfl) (pv 5) pe_int (fun _ _ => rfl)) pe_str) pa_nil))))))))))))
    (pss_cons (ps_set (i := 9) sc_law.nd rfl (by first | exact .inl rfl | exact .inr rfl) (pe_op op_cat (pe_op op_cat (pe_slice (ksl_list (K := K) rfl) (pv 5) po_none (po_some (pv 7))) (pe_lst (pa_cons (pe_call G__law_pick (hr.mono (by decide)) rfl T.g__law_pick T.F__law_pick.kp T.b__law_pick .nil pass0 (pa_cons (pv 2) (pa_cons (pv 8) pa_nil))) pa_nil))) (pe_slice (ksl_list (K := K) rfl) (pv 5) (po_some (pv 7)) po_none)))
    (pss_cons (ps_if (pt_cmpR op_ne (pe_callB call_reprO (by rfl) T.n_repr (by decide +kernel) (pa_cons (pe_call G__law_refused (hr.mono (by decide)) rfl T.g__law_refused T.F__law_refused.kp T.b__law_refused .nil pass0 (pa_cons (pv 9) pa_nil)) pa_nil)) (pe_callB call_reprO (by rfl) T.n_repr (by decide +kernel) (pa_cons (pe_call G__law_due (hr.mono (by decide)) rfl T.g__law_due T.F__law_due.kp T.b__law_due .nil pass0 (pa_cons (pv 9) pa_nil)) pa_nil)) (nomark _)) (pss_one (ps_ret pe_bl)) pss_nil)
    (pss_cons (ps_if (pt_cmpR (kop_neD (K := K) rfl hr.units) (pe_call G__law_refused (hr.mono (by decide)) rfl T.g__law_refused T.F__law_refused.kp T.b__law_refused .nil pass0 (pa_cons (pe_callTy (kcall_tup (K := K) rfl) (by rfl) T.n_tuple (by decide +kernel) (pa_cons (pv 9) pa_nil)) pa_nil)) (pe_call G__law_due (hr.mono (by decide)) rfl T.g__law_due T.F__law_due.kp T.b__law_due .nil pass0 (pa_cons (pv 9) pa_nil)) (nomark _)) (pss_one (ps_ret pe_bl)) pss_nil)
    (pss_cons (ps_set (i := 4) sc_law.nd rfl (by first | exact .inl rfl | exact .inr rfl) (pe_call G__law_any (hr.mono (by decide)) rfl T.g__law_any T.F__law_any.kp T.b__law_any .nil pass0 (pa_cons (pv 2) (pa_cons pe_int (pa_cons (pv 6) pa_nil)))))
    (pss_cons (ps_if (pt_cmpR op_ne (pe_callB call_reprO (by rfl) T.n_repr (by decide +kernel) (pa_cons (pe_call G__law_refused (hr.mono (by decide)) rfl T.g__law_refused T.F__law_refused.kp T.b__law_refused .nil pass0 (pa_cons (pv 4) pa_nil)) pa_nil)) (pe_callB call_reprO (by rfl) T.n_repr (by decide +kernel) (pa_cons (pe_call G__law_due (hr.mono (by decide)) rfl T.g__law_due T.F__law_due.kp T.b__law_due .nil pass0 (pa_cons (pv 4) pa_nil)) pa_nil)) (nomark _)) (pss_one (ps_ret pe_bl)) pss_nil)
    (pss_one (ps_if (pt_cmpR op_ne (pe_call G__law_unput (hr.mono (by decide)) rfl T.g__law_unput T.F__law_unput.kp T.b__law_unput .nil pass0 (pa_cons (pv 6) (pa_cons (pv 4) pa_nil))) (pe_not (pe_call G__law_is_stick (hr.mono (by decide)) rfl T.g__law_is_stick T.F__law_is_stick.kp T.b__law_is_stick .nil pass0 (pa_cons (pv 4) pa_nil))) (nomark _)) (pss_one (ps_ret pe_bl)) pss_nil))))))))))))))
    (pss_one (ps_for PassesOwn.never rfl (kpi_tup (K := K) rfl (pe_tup (pa_cons pe_non (pa_cons pe_str (pa_cons pe_str (pa_cons pe_int (pa_cons (pe_tup pa_nil) (pa_cons (pe_lst pa_nil) (pa_cons (pv 6) (pa_cons pe_bl pa_nil)))))))))) (pg_name (i := 4) sc_law.nd rfl (by first | exact .inl rfl | exact .inr rfl))
    (pss_one (ps_if (pt_cmpR op_ne (pe_callB call_reprO (by rfl) T.n_repr (by decide +kernel) (pa_cons (pe_call G__law_refused (hr.mono (by decide)) rfl T.g__law_refused T.F__law_refused.kp T.b__law_refused .nil pass0 (pa_cons (pv 4) pa_nil)) pa_nil)) pe_str (nomark _)) (pss_one (ps_ret pe_bl)) pss_nil)))))))
    (pss_one (ps_ret pe_bl))), ?_⟩
  refine enter h (fun ds cs R X G f xq => ?_)
  clear h xq
  try dsimp only [cxOf, Cx.nox, Cx.wish]
  obtain ⟨ns, rfl, hl, rfl, k⟩ := f
  show Xs K _ _ [some (.ro (ns.map D.int)), none, none, none, none, none, none, none, none, none] []
  refine xs_seq (xs_for (ei_range ?_))
  walk_at "ev"
  rw [List.length_map]
  have hN2 := law_turns (ns := ns) (w := 2) (by decide) rfl
  generalize (if (if (ns.length : Int) < 2 then (ns.length : Int) else 2) > 1 then (if (ns.length : Int) < 2 then (ns.length : Int) else 2) else 1) = NN1 at hN2 ⊢
  refine ⟨_, rfl, by omega, by omega, fun _ Δ _ => ∃ x1 x2 x3 x4 x5 x6 x7 x8 x9 : Option D, Δ = [some (.ro (ns.map D.int)), x1, x2, x3, x4, x5, x6, x7, x8, x9], ⟨_, _, _, _, _, _, _, _, _, rfl⟩, ?_, ?_⟩
  rotate_left
  · rintro Δ cs ⟨x1, x2, x3, x4, x5, x6, x7, x8, x9, rfl⟩
    walk_at "ev"
    exact ⟨0, k _⟩
  rintro i d Δ cs hd ⟨x1, x2, x3, x4, x5, x6, x7, x8, x9, rfl⟩
  obtain ⟨hi, rfl⟩ := rangeD_get hd
  clear hd
  refine gg_name (xs_drops 0 ?_)
  show Xs K _ _ [some (.ro (ns.map D.int)), some (.int i), x2, x3, x4, x5, x6, x7, x8, x9] []
  walk_at "ev"
  refine ⟨ns, (i : Int), rfl, hl, by omega, by omega, rfl, fun q p is b hn => ?_⟩
  show Xs K _ _ [some (.ro (ns.map D.int)), some (.int i), some (.raw (.ref p)), x3, x4, x5, x6, x7, x8, x9] (dealC q p is b)
  refine xs_cut (M := fun Δ cs => ∃ (x3 x4 x5 x7 x8 x9 : Option D) (is : List Int) (b : Int) (cks : List Str) (w : Nat), NN is ∧ RuleOk cks w ∧ Δ = [some (.ro (ns.map D.int)), some (.int i), some (.raw (.ref p)), x3, x4, x5, some (ruleD T cks), x7, x8, x9] ∧ cs = dealC q p is b) ?_ ?_
  rotate_left
  · rintro Δ cs ⟨x3, x4, x5, x7, x8, x9, is, b, cks, w, hn, hr0, rfl, rfl⟩
    refine xs_for (ei_tup ?_)
    repeat (first
      | walk_at "e"
      | dsimp only
      | (with_reducible refine er_lst ?_)
      | (refine ⟨by first | decide +kernel | (show 1 ≤ sizeLine; decide) | (show 8 ≤ sizeLine; decide) | (show 10 ≤ sizeLine; decide), ?_⟩))
    refine ⟨_, rfl, fun _ Δ cs => ∃ x4, Δ = [some (.ro (ns.map D.int)), some (.int i), some (.raw (.ref p)), x3, x4, x5, some (ruleD T cks), x7, x8, x9] ∧ cs = dealC q p is b, ⟨_, rfl, rfl⟩, ?_, ?_⟩
    rotate_left
    · rintro Δ cs ⟨y4, rfl, rfl⟩
      exact ⟨_, _, _, _, _, _, _, _, _, rfl⟩
    rintro g v Δ cs hv ⟨y4, rfl, rfl⟩
    refine gg_name ?_
    have pv : PW K v ∧ dueO v = some 0 := by
      have h := List.mem_of_getElem? hv
      simp only [List.mem_cons, List.not_mem_nil, or_false] at h
      rcases h with h | h | h | h | h | h | h | h
      · rw [h]; exact ⟨pw_of p1_non rfl, rfl⟩
      · rw [h]; exact ⟨pw_str (by decide) (by decide +kernel), rfl⟩
      · rw [h]; exact ⟨pw_str (by decide) (by decide +kernel), rfl⟩
      · rw [h]; exact ⟨pw_of (p1_int _) rfl, rfl⟩
      · rw [h]; exact ⟨pw_tup (fun x hx => by cases hx) (by decide), rfl⟩
      · rw [h]; exact ⟨pw_lst (fun x hx => by cases hx) (by decide), rfl⟩
      · rw [h]; exact ⟨pw_of (made_p1 T cks) rfl, rfl⟩
      · rw [h]; exact ⟨pw_of (p1_bl _) rfl, rfl⟩
    refine xs_endP (P := fun cs => cs = dealC q p is b) ?_ ?_
    · walk_at "ev"
      refine ⟨_, rfl, pv.1, ?_⟩
      walk_at "ev"
      refine oa_reprO (due_small pv.1) ?_
      rw [pv.2]
      walk_at "ev"
      exact lv_bl ⟨by decide +kernel, rfl⟩
    · rintro cs rfl
      exact ⟨_, rfl, rfl⟩
  refine xs_for (ei_range ?_)
  walk_at "ev"
  refine ⟨8, rfl, by decide, by decide, fun j Δ cs => ∃ (x3 x4 x5 x6 x7 x8 x9 : Option D) (is : List Int) (b : Int), NN is ∧ (1 ≤ j → ∃ cks w, RuleOk cks w ∧ x6 = some (ruleD T cks)) ∧ Δ = [some (.ro (ns.map D.int)), some (.int i), some (.raw (.ref p)), x3, x4, x5, x6, x7, x8, x9] ∧ cs = dealC q p is b, ⟨_, _, _, _, _, _, _, is, b, hn, fun h => absurd h (by decide), rfl, rfl⟩, ?_, ?_⟩
  rotate_left
  · rintro Δ cs ⟨x3, x4, x5, x6, x7, x8, x9, is, b, hn, h6, rfl, rfl⟩
    obtain ⟨cks, w, hr0, rfl⟩ := h6 (by decide)
    exact ⟨_, _, _, _, _, _, is, b, cks, w, hn, hr0, rfl, rfl⟩
  clear hn is b x3 x4 x5 x6 x7 x8 x9
  rintro j d Δ cs hd ⟨x3, x4, x5, x6, x7, x8, x9, is, b, hn, _, rfl, rfl⟩
  obtain ⟨hj, rfl⟩ := rangeD_get hd
  clear hd
  refine gg_name ?_
  show Xs K _ _ [some (.ro (ns.map D.int)), some (.int i), some (.raw (.ref p)), some (.int j), x4, x5, x6, x7, x8, x9] (dealC q p is b)
  walk_at "ev"
  refine ⟨q, p, is, b, 5, 4, [], rfl, rfl, hn, by decide, by decide, by decide, by decide, fun cks w is1 b1 hr0 hc5 hw4 hn1 => ?_⟩
  clear hn is b
  show Xs K _ _ [some (.ro (ns.map D.int)), some (.int i), some (.raw (.ref p)), some (.int j), x4, some (.lst (cks.map D.str)), x6, x7, x8, x9] (dealC q p is1 b1)
  have dn := due_rule hr0
  refine xs_seqAsg (d := ruleD T cks) (C := dealC q p is1 b1) ?_ ?_
  · refine er_make (X := X0) (fun _ => xq0) ?_
    walk_at "ev"
    exact fun p2 => ⟨p2, _, _, rfl, rfl, rule_pw hr0, fun n e => absurd (dn.symm.trans e) (by intro z; cases z), fun _ => ⟨rfl, ["checks"], [.tup (cks.map D.str)], _, rfl, rfl, rfl⟩⟩
  show Xs K _ _ [some (.ro (ns.map D.int)), some (.int i), some (.raw (.ref p)), some (.int j), x4, some (.lst (cks.map D.str)), some (ruleD T cks), x7, x8, x9] (dealC q p is1 b1)
  refine xs_guardP (P := fun cs => cs = dealC q p is1 b1) ?_ ?_
  · walk_at "ev"
    refine ⟨_, rfl, rule_pw hr0, ?_⟩
    rw [dn]
    walk_at "ev"
    exact lv_bl ⟨rfl, rfl⟩
  rintro cs rfl
  refine xs_guardP (P := fun cs => cs = dealC q p is1 b1) ?_ ?_
  · walk_at "ev"
    refine ⟨_, rfl, rule_pwT hr0, ?_⟩
    rw [due_lt, dn]
    walk_at "ev"
    exact lv_bl ⟨rfl, rfl⟩
  rintro cs rfl
  have hne := hr0.ne
  walk_at "ev"
  rw [List.length_map]
  refine ⟨q, p, is1, b1, (cks.length : Int) + 1, [], rfl, rfl, hn1, by omega, by omega, fun r is b hr1 hr2 hn => ?_⟩
  obtain ⟨t, rfl⟩ : ∃ t : Nat, r = (t : Int) := ⟨r.toNat, by omega⟩
  clear hn1 is1 b1
  show Xs K _ _ [some (.ro (ns.map D.int)), some (.int i), some (.raw (.ref p)), some (.int j), x4, some (.lst (cks.map D.str)), some (ruleD T cks), some (.int t), x8, x9] (dealC q p is b)
  obtain ⟨c0, hc0⟩ : ∃ c, cks[0]? = some c := ⟨_, List.getElem?_eq_getElem (by omega)⟩
  obtain ⟨sc0, lc0⟩ := hr0.stick hc0
  have dr0 := hr0.each c0 (List.mem_of_getElem? hc0)
  have hw := hr0.w2
  have g0 : atI (cks.map D.str) 0 = some (.str c0) := atI_of (j := 0) rfl (by rw [List.getElem?_map, hc0]; rfl)
  refine xs_cut (M := fun Δ cs => ∃ l : List D, l.length = 10 ∧ (∀ d ∈ l, PV1 K d) ∧ Δ = [some (.ro (ns.map D.int)), some (.int i), some (.raw (.ref p)), some (.int j), x4, some (.lst (cks.map D.str)), some (ruleD T cks), some (.int t), some (.lst l), x9] ∧ cs = dealC q p is b) ?_ ?_
  · refine xs_asg (er_lst ?_)
    repeat (first
      | walk_at "e"
      | dsimp only
      | (with_reducible refine er_lst ?_)
      | (with_reducible refine o2_ixL g0 ?_)
      | (refine o2_addS (small_line (by rw [lc0]; show w + 1 ≤ 1000; omega)) ?_)
      | (refine ⟨by first | decide +kernel | (show 1 ≤ sizeLine; decide) | (show 8 ≤ sizeLine; decide) | (show 10 ≤ sizeLine; decide), ?_⟩))
    refine ⟨_, rfl, fun d hd => ?_, rfl, rfl⟩
    have pc0 : PV1 K (.str c0) := p1_str (by rw [lc0]; omega) (lay_of (dr_lay dr0))
    have ap : ∀ u : Str, (sgn u).length = 1 → (∀ c ∈ sgn u, c < 128) → PV1 K (.str (c0 ++ u)) := fun u hu1 hu2 => p1_str (by rw [← sgn_len, sgn_app, List.length_append, sgn_len, lc0, hu1]; omega) (lay_of fun c hc => by
      rw [sgn_app] at hc
      rcases List.mem_append.mp hc with h | h
      · exact dr_lay dr0 c h
      · exact hu2 c h)
    simp only [List.mem_cons, List.not_mem_nil, or_false] at hd
    rcases hd with h | h | h | h | h | h | h | h | h | h
    · rw [h]; exact p1_non
    · rw [h]; exact p1_str (by decide) (by decide +kernel)
    · rw [h]; exact ap "x" rfl (by decide +kernel)
    · rw [h]; exact p1_int _
    · rw [h]; exact p1_lst _
    · rw [h]; exact p1_bl _
    · rw [h]; exact p1_str (by decide) (by decide +kernel)
    · rw [h]; exact p1_tup _
    · rw [h]; exact made_p1 T cks
    · rw [h]; exact ap "\n" rfl (by decide +kernel)
  rintro Δ cs ⟨l, ll, hlv, rfl, rfl⟩
  refine xs_cut (M := fun Δ cs => ∃ (bt : List D) (is : List Int) (b : Int), NN is ∧ PW K (.lst bt) ∧ Δ = [some (.ro (ns.map D.int)), some (.int i), some (.raw (.ref p)), some (.int j), x4, some (.lst (cks.map D.str)), some (ruleD T cks), some (.int t), some (.lst l), some (.lst bt)] ∧ cs = dealC q p is b) ?_ ?_
  · refine xs_asg (er_op ?_)
    walk_at "ev"
    refine er_slL ?_
    walk_at "ev"
    refine ⟨_, rfl, ?_⟩
    walk_at "ev"
    refine ⟨_, rfl, ?_⟩
    refine er_lst ?_
    walk_at "ev"
    refine ⟨q, p, is, b, [], l, rfl, rfl, hn, fun e => (by rw [e] at ll; cases ll), by omega, fun g d is' b' hd hn' => ?_⟩
    walk_at "ev"
    refine ⟨by show 1 ≤ sizeLine; decide, ?_⟩
    have l1 := cutD_len (cks.map D.str) none (some (t : Int))
    have l2 := cutD_len (cks.map D.str) (some (t : Int)) none
    rw [List.length_map] at l1 l2
    refine o2_cat (Nat.le_trans (Nat.add_le_add_right l1 1) (small_line (by omega))) ?_
    refine er_slL ?_
    walk_at "ev"
    refine ⟨_, rfl, ?_⟩
    walk_at "ev"
    refine ⟨_, rfl, ?_⟩
    walk_at "ev"
    refine o2_cat ?_ ?_
    · rw [List.length_append]
      exact Nat.le_trans (Nat.add_le_add (Nat.add_le_add_right l1 1) l2) (small_line (by omega))
    refine ⟨_, is', b', hn', pw_lst (fun x hx => ?_) (by simp only [List.length_append, List.length_cons, List.length_nil]; omega), rfl, rfl⟩
    rcases List.mem_append.mp hx with h | h
    · rcases List.mem_append.mp h with h | h
      · exact rule_p1 hr0 x (cutD_mem h)
      · rw [List.mem_singleton.mp h]
        exact hlv d (List.mem_of_getElem? hd)
    · exact rule_p1 hr0 x (cutD_mem h)
  clear hn is b hlv ll
  rintro Δ cs ⟨bt, is, b, hn, pb, rfl, rfl⟩
  have pbT : PW K (.tup bt) := pw_tup pb.items pb.few
  refine xs_guardP (P := fun cs => cs = dealC q p is b) ?_ ?_
  · walk_at "ev"
    refine ⟨_, rfl, pb, ?_⟩
    walk_at "ev"
    refine oa_reprO (due_small pb) ?_
    walk_at "ev"
    refine ⟨_, rfl, pb, ?_⟩
    walk_at "ev"
    refine oa_reprO (due_small pb) ?_
    walk_at "ev"
    refine lv_bl ⟨?_, rfl⟩
    rw [decide_eq_true rfl]
    rfl
  rintro cs rfl
  refine xs_guardP (P := fun cs => cs = dealC q p is b) ?_ ?_
  · walk_at "ev"
    refine ⟨_, rfl, pbT, ?_⟩
    walk_at "ev"
    refine ⟨_, rfl, pb, ?_⟩
    rw [due_lt]
    refine o2_neSelf (opt_ok _).1 (opt_ok _).2 (lv_bl ⟨rfl, rfl⟩)
  rintro cs rfl
  refine xs_cut (M := fun Δ cs => ∃ (v : D) (is : List Int) (b : Int), NN is ∧ PW K v ∧ Δ = [some (.ro (ns.map D.int)), some (.int i), some (.raw (.ref p)), some (.int j), some v, some (.lst (cks.map D.str)), some (ruleD T cks), some (.int t), some (.lst l), some (.lst bt)] ∧ cs = dealC q p is b) ?_ ?_
  · walk_at "ev"
    refine ⟨q, p, is, b, 8, [], _, rfl, rfl, hn, by decide, made_p1 T cks, rfl, fun d is' b' pd hn' => ?_⟩
    exact ⟨d, is', b', hn', pd, rfl, rfl⟩
  clear hn is b
  rintro Δ cs ⟨v, is, b, hn, pv, rfl, rfl⟩
  refine xs_guardP (P := fun cs => cs = dealC q p is b) ?_ ?_
  · walk_at "ev"
    refine ⟨_, rfl, pv, ?_⟩
    walk_at "ev"
    refine oa_reprO (due_small pv) ?_
    walk_at "ev"
    refine ⟨_, rfl, pv, ?_⟩
    walk_at "ev"
    refine oa_reprO (due_small pv) ?_
    walk_at "ev"
    refine lv_bl ⟨?_, rfl⟩
    rw [decide_eq_true rfl]
    rfl
  rintro cs rfl
  refine xs_endP (P := fun cs => cs = dealC q p is b) ?_ ?_
  · walk_at "ev"
    refine ⟨cks, w, v, rfl, hr0, pv.one, ?_⟩
    walk_at "ev"
    refine ⟨v, rfl, pv.one, ?_⟩
    walk_at "ev"
    refine lv_bl ?_
    walk_at "ev"
    refine lv_bl ⟨?_, rfl⟩
    rw [decide_eq_true rfl]
    rfl
  rintro cs rfl
  exact ⟨_, _, _, _, _, _, _, is, b, hn, fun _ => ⟨cks, w, hr0, rfl⟩, rfl, rfl⟩
end
/-! ### the end -/
theorem all_mk {l : PySem.W.OpenLaw} {w : World} {K : PySem.W.Frag} {h : Heap} {mg : Str → Option Value} {fa : Addr} (X : K.In h) (G : h.Ns mainGlobals mg) (hfa : mg "law" = some (.ref fa))
    {tk_PLAIN : Tok}
    {tk_SIGNS : Tok}
    {aC_InvalidRule : Addr}
    {aC_InvalidStick : Addr}
    {aC_InvalidText : Addr}
    {aC_StickError : Addr}
    {oN_InvalidRule : Addr} {oA_InvalidRule oB_InvalidRule : Str} {oC_InvalidRule oM_InvalidRule oE_InvalidRule : List Value} {oD_InvalidRule : List Str} {oF_InvalidRule : Bool} {oG_InvalidRule : Option Bool} {oH_InvalidRule : Option Addr} {oI_InvalidRule oJ_InvalidRule oK_InvalidRule oL_InvalidRule oP_InvalidRule : Option Value}
    
    {aC_CheckRule : Addr}
    {af_InvalidRule___init__ : Addr} {od_InvalidRule___init__ an_InvalidRule___init__ : Option Addr} {sl_InvalidRule___init__ : Array (Option Value)} {oc_InvalidRule___init__ kV_InvalidRule___init__ dc_InvalidRule___init__ pm_InvalidRule___init__ cd_InvalidRule___init__ ct_InvalidRule___init__ : Value}
    {af_is_sequence : Addr} {od_is_sequence an_is_sequence : Option Addr} {sl_is_sequence : Array (Option Value)} {oc_is_sequence kV_is_sequence dc_is_sequence pm_is_sequence cd_is_sequence ct_is_sequence : Value}
    {af_is_stick : Addr} {od_is_stick an_is_stick : Option Addr} {sl_is_stick : Array (Option Value)} {oc_is_stick kV_is_stick dc_is_stick pm_is_stick cd_is_stick ct_is_stick : Value}
    {af_first_misfit : Addr} {od_first_misfit an_first_misfit : Option Addr} {sl_first_misfit : Array (Option Value)} {oc_first_misfit kV_first_misfit dc_first_misfit pm_first_misfit cd_first_misfit ct_first_misfit : Value}
    {af_CheckRule___init__ : Addr} {od_CheckRule___init__ an_CheckRule___init__ : Option Addr} {sl_CheckRule___init__ : Array (Option Value)} {oc_CheckRule___init__ kV_CheckRule___init__ dc_CheckRule___init__ pm_CheckRule___init__ cd_CheckRule___init__ ct_CheckRule___init__ : Value}
    {af_CheckRule_put : Addr} {od_CheckRule_put an_CheckRule_put : Option Addr} {sl_CheckRule_put : Array (Option Value)} {oc_CheckRule_put kV_CheckRule_put dc_CheckRule_put pm_CheckRule_put cd_CheckRule_put ct_CheckRule_put : Value}
    {af__law_deal : Addr} {od__law_deal an__law_deal : Option Addr} {sl__law_deal : Array (Option Value)} {oc__law_deal kV__law_deal dc__law_deal pm__law_deal cd__law_deal ct__law_deal : Value}
    {af__law_draw : Addr} {od__law_draw an__law_draw : Option Addr} {sl__law_draw : Array (Option Value)} {oc__law_draw kV__law_draw dc__law_draw pm__law_draw cd__law_draw ct__law_draw : Value}
    {af__law_pick : Addr} {od__law_pick an__law_pick : Option Addr} {sl__law_pick : Array (Option Value)} {oc__law_pick kV__law_pick dc__law_pick pm__law_pick cd__law_pick ct__law_pick : Value}
    {af__law_stick : Addr} {od__law_stick an__law_stick : Option Addr} {sl__law_stick : Array (Option Value)} {oc__law_stick kV__law_stick dc__law_stick pm__law_stick cd__law_stick ct__law_stick : Value}
    {af__law_near : Addr} {od__law_near an__law_near : Option Addr} {sl__law_near : Array (Option Value)} {oc__law_near kV__law_near dc__law_near pm__law_near cd__law_near ct__law_near : Value}
    {af__law_rule : Addr} {od__law_rule an__law_rule : Option Addr} {sl__law_rule : Array (Option Value)} {oc__law_rule kV__law_rule dc__law_rule pm__law_rule cd__law_rule ct__law_rule : Value}
    {af__law_any : Addr} {od__law_any an__law_any : Option Addr} {sl__law_any : Array (Option Value)} {oc__law_any kV__law_any dc__law_any pm__law_any cd__law_any ct__law_any : Value}
    {af__law_is_stick : Addr} {od__law_is_stick an__law_is_stick : Option Addr} {sl__law_is_stick : Array (Option Value)} {oc__law_is_stick kV__law_is_stick dc__law_is_stick pm__law_is_stick cd__law_is_stick ct__law_is_stick : Value}
    {af__law_due : Addr} {od__law_due an__law_due : Option Addr} {sl__law_due : Array (Option Value)} {oc__law_due kV__law_due dc__law_due pm__law_due cd__law_due ct__law_due : Value}
    {af__law_refused : Addr} {od__law_refused an__law_refused : Option Addr} {sl__law_refused : Array (Option Value)} {oc__law_refused kV__law_refused dc__law_refused pm__law_refused cd__law_refused ct__law_refused : Value}
    {af__law_unput : Addr} {od__law_unput an__law_unput : Option Addr} {sl__law_unput : Array (Option Value)} {oc__law_unput kV__law_unput dc__law_unput pm__law_unput cd__law_unput ct__law_unput : Value}
    {af_law : Addr} {od_law an_law : Option Addr} {sl_law : Array (Option Value)} {oc_law kV_law dc_law pm_law cd_law ct_law : Value}
    (z_abs : PySem.W.nsIn K mainGlobals "abs" = some none)
    (z_enumerate : PySem.W.nsIn K mainGlobals "enumerate" = some none)
    (z_int : PySem.W.nsIn K mainGlobals "int" = some none)
    (z_isinstance : PySem.W.nsIn K mainGlobals "isinstance" = some none)
    (z_len : PySem.W.nsIn K mainGlobals "len" = some none)
    (z_list : PySem.W.nsIn K mainGlobals "list" = some none)
    (z_max : PySem.W.nsIn K mainGlobals "max" = some none)
    (z_min : PySem.W.nsIn K mainGlobals "min" = some none)
    (z_range : PySem.W.nsIn K mainGlobals "range" = some none)
    (z_repr : PySem.W.nsIn K mainGlobals "repr" = some none)
    (z_str : PySem.W.nsIn K mainGlobals "str" = some none)
    (z_tuple : PySem.W.nsIn K mainGlobals "tuple" = some none)
    (zc_PLAIN : PySem.W.nsIn K mainGlobals "PLAIN" = some (some (.str "." tk_PLAIN)))
    (zc_SIGNS : PySem.W.nsIn K mainGlobals "SIGNS" = some (some (.str ".x" tk_SIGNS)))
    (zC_InvalidRule : PySem.W.nsIn K mainGlobals "InvalidRule" = some (some (.ref aC_InvalidRule)))
    (hd_InvalidRule : PySem.W.hasDictIn K aC_InvalidRule = true)
    (ty_InvalidRule : PySem.W.typeIn K (.ref aC_InvalidRule) = some (.type "type"))
    (zC_InvalidStick : PySem.W.nsIn K mainGlobals "InvalidStick" = some (some (.ref aC_InvalidStick)))
    (hd_InvalidStick : PySem.W.hasDictIn K aC_InvalidStick = true)
    (ty_InvalidStick : PySem.W.typeIn K (.ref aC_InvalidStick) = some (.type "type"))
    (zC_InvalidText : PySem.W.nsIn K mainGlobals "InvalidText" = some (some (.ref aC_InvalidText)))
    (hd_InvalidText : PySem.W.hasDictIn K aC_InvalidText = true)
    (ty_InvalidText : PySem.W.typeIn K (.ref aC_InvalidText) = some (.type "type"))
    (zC_StickError : PySem.W.nsIn K mainGlobals "StickError" = some (some (.ref aC_StickError)))
    (hd_StickError : PySem.W.hasDictIn K aC_StickError = true)
    (ty_StickError : PySem.W.typeIn K (.ref aC_StickError) = some (.type "type"))
    (k_InvalidRule : PySem.W.keepIn K (.ref aC_InvalidRule) = true)
    (b_InvalidRule : PySem.W.subIn K (.ref aC_InvalidRule) (.type "BaseException") = some true)
    (ss_InvalidRule : PySem.W.subIn K (.ref aC_InvalidRule) (.ref aC_InvalidRule) = some true)
    (e1_InvalidRule : PySem.W.findIn K (.ref aC_InvalidRule) "__getattribute__" = some (some (.builtin "BaseException.__getattribute__")))
    (e2_InvalidRule : PySem.W.findIn K (.ref aC_InvalidRule) "__getattr__" = some none)
    (e3_InvalidRule : PySem.W.findIn K (.ref aC_InvalidRule) "__class__" = some (some (.builtin "object.__class__")))
    (e4_InvalidRule : PySem.W.specialIn K (.builtin "object.__class__") "__get__" = some (some (.builtin "getset_descriptor.__get__")))
    (e5_InvalidRule : PySem.W.takesIn K (.builtin "object.__class__") = some true)
    (e6_InvalidRule : PySem.W.mroIn K aC_InvalidRule (.type "object") = some true)
    (oc_InvalidRule : K.lookup aC_InvalidRule = some (excClassObj oA_InvalidRule oB_InvalidRule aC_InvalidRule oN_InvalidRule oC_InvalidRule oM_InvalidRule true oD_InvalidRule oE_InvalidRule oF_InvalidRule oG_InvalidRule oH_InvalidRule oI_InvalidRule oJ_InvalidRule oK_InvalidRule oL_InvalidRule oP_InvalidRule "ValueError.__new__"))
    (rv_InvalidRule : PySem.HandSPX.refsVE oM_InvalidRule = true)
    (sa_InvalidRule : PySem.W.findIn K (.ref aC_InvalidRule) "__setattr__" = some (some (.builtin "object.__setattr__")))
    (nf_InvalidRule : PySem.W.findIn K (.ref aC_InvalidRule) "at" = some none)
    (k_InvalidStick : PySem.W.keepIn K (.ref aC_InvalidStick) = true)
    (b_InvalidStick : PySem.W.subIn K (.ref aC_InvalidStick) (.type "BaseException") = some true)
    (ss_InvalidStick : PySem.W.subIn K (.ref aC_InvalidStick) (.ref aC_InvalidStick) = some true)
    (e1_InvalidStick : PySem.W.findIn K (.ref aC_InvalidStick) "__getattribute__" = some (some (.builtin "BaseException.__getattribute__")))
    (e2_InvalidStick : PySem.W.findIn K (.ref aC_InvalidStick) "__getattr__" = some none)
    (e3_InvalidStick : PySem.W.findIn K (.ref aC_InvalidStick) "__class__" = some (some (.builtin "object.__class__")))
    (e4_InvalidStick : PySem.W.specialIn K (.builtin "object.__class__") "__get__" = some (some (.builtin "getset_descriptor.__get__")))
    (e5_InvalidStick : PySem.W.takesIn K (.builtin "object.__class__") = some true)
    (e6_InvalidStick : PySem.W.mroIn K aC_InvalidStick (.type "object") = some true)
    (x_InvalidStick : PySem.W.excIn K aC_InvalidStick [.type "ValueError", .type "Exception", .type "BaseException", .type "object"] "ValueError.__new__" = true)
    (sx_InvalidRule_StickError : PySem.W.subIn K (.ref aC_InvalidRule) (.ref aC_StickError) = some true)
    (sx_InvalidRule_InvalidText : PySem.W.subIn K (.ref aC_InvalidRule) (.ref aC_InvalidText) = some false)
    (sx_InvalidStick_StickError : PySem.W.subIn K (.ref aC_InvalidStick) (.ref aC_StickError) = some true)
    (zC_CheckRule : PySem.W.nsIn K mainGlobals "CheckRule" = some (some (.ref aC_CheckRule)))
    (pg_CheckRule : PySem.W.plainGet K aC_CheckRule Str.empty = true)
    (hd_CheckRule : PySem.W.hasDictIn K aC_CheckRule = true)
    (po_CheckRule : PySem.W.plainOver K aC_CheckRule = true)
    (sa_CheckRule : PySem.W.findIn K (.ref aC_CheckRule) "__setattr__" = some (some (.builtin "object.__setattr__")))
    (na_CheckRule_checks : PySem.W.findIn K (.ref aC_CheckRule) "checks" = some none)
    (i1_CheckRule : PySem.W.findIn K (.ref aC_CheckRule) "__class__" = some (some (.builtin "object.__class__")))
    (i2_CheckRule : PySem.W.specialIn K (.builtin "object.__class__") "__get__" = some (some (.builtin "getset_descriptor.__get__")))
    (i3_CheckRule : PySem.W.takesIn K (.builtin "object.__class__") = some true)
    (i4_CheckRule : PySem.W.mroIn K aC_CheckRule (.type "object") = some true)
    (own_str : PySem.W.subIn K (.ref aC_CheckRule) (.type "str") = some false)
    (own_list : PySem.W.subIn K (.ref aC_CheckRule) (.type "list") = some false)
    (own_tuple : PySem.W.subIn K (.ref aC_CheckRule) (.type "tuple") = some false)
    (af_InvalidRule___init___ : PySem.W.findIn K (.ref aC_InvalidRule) "__init__" = some (some (.ref af_InvalidRule___init__)))
    (fn_InvalidRule___init__ : PySem.W.isFn K (.ref af_InvalidRule___init__) = true)
    (l_InvalidRule___init__ : K.lookup af_InvalidRule___init__ = some ⟨oc_InvalidRule___init__, od_InvalidRule___init__, .func (PySem.W.fnOf "__init__" "InvalidRule.__init__" (defArgs s_InvalidRule___init__) (defBody s_InvalidRule___init__) (defScope s_InvalidRule___init__) .none kV_InvalidRule___init__ dc_InvalidRule___init__ pm_InvalidRule___init__ an_InvalidRule___init__ cd_InvalidRule___init__ ct_InvalidRule___init__), sl_InvalidRule___init__⟩)
    (cc_InvalidRule___init__ : PySem.W.codeIn K cd_InvalidRule___init__ "InvalidRule.__init__" = true)
    (k_InvalidRule___init__ : PySem.W.keepIn K (.ref af_InvalidRule___init__) = true)
    (af_is_sequence_ : PySem.W.nsIn K mainGlobals "is_sequence" = some (some (.ref af_is_sequence)))
    (l_is_sequence : K.lookup af_is_sequence = some ⟨oc_is_sequence, od_is_sequence, .func (PySem.W.fnOf "is_sequence" "is_sequence" (defArgs s_is_sequence) (defBody s_is_sequence) (defScope s_is_sequence) .none kV_is_sequence dc_is_sequence pm_is_sequence an_is_sequence cd_is_sequence ct_is_sequence), sl_is_sequence⟩)
    (cc_is_sequence : PySem.W.codeIn K cd_is_sequence "is_sequence" = true)
    (k_is_sequence : PySem.W.keepIn K (.ref af_is_sequence) = true)
    (af_is_stick_ : PySem.W.nsIn K mainGlobals "is_stick" = some (some (.ref af_is_stick)))
    (l_is_stick : K.lookup af_is_stick = some ⟨oc_is_stick, od_is_stick, .func (PySem.W.fnOf "is_stick" "is_stick" (defArgs s_is_stick) (defBody s_is_stick) (defScope s_is_stick) .none kV_is_stick dc_is_stick pm_is_stick an_is_stick cd_is_stick ct_is_stick), sl_is_stick⟩)
    (cc_is_stick : PySem.W.codeIn K cd_is_stick "is_stick" = true)
    (k_is_stick : PySem.W.keepIn K (.ref af_is_stick) = true)
    (af_first_misfit_ : PySem.W.nsIn K mainGlobals "first_misfit" = some (some (.ref af_first_misfit)))
    (l_first_misfit : K.lookup af_first_misfit = some ⟨oc_first_misfit, od_first_misfit, .func (PySem.W.fnOf "first_misfit" "first_misfit" (defArgs s_first_misfit) (defBody s_first_misfit) (defScope s_first_misfit) .none kV_first_misfit dc_first_misfit pm_first_misfit an_first_misfit cd_first_misfit ct_first_misfit), sl_first_misfit⟩)
    (cc_first_misfit : PySem.W.codeIn K cd_first_misfit "first_misfit" = true)
    (k_first_misfit : PySem.W.keepIn K (.ref af_first_misfit) = true)
    (af_CheckRule___init___ : PySem.W.findIn K (.ref aC_CheckRule) "__init__" = some (some (.ref af_CheckRule___init__)))
    (fn_CheckRule___init__ : PySem.W.isFn K (.ref af_CheckRule___init__) = true)
    (l_CheckRule___init__ : K.lookup af_CheckRule___init__ = some ⟨oc_CheckRule___init__, od_CheckRule___init__, .func (PySem.W.fnOf "__init__" "CheckRule.__init__" (defArgs s_CheckRule___init__) (defBody s_CheckRule___init__) (defScope s_CheckRule___init__) .none kV_CheckRule___init__ dc_CheckRule___init__ pm_CheckRule___init__ an_CheckRule___init__ cd_CheckRule___init__ ct_CheckRule___init__), sl_CheckRule___init__⟩)
    (cc_CheckRule___init__ : PySem.W.codeIn K cd_CheckRule___init__ "CheckRule.__init__" = true)
    (k_CheckRule___init__ : PySem.W.keepIn K (.ref af_CheckRule___init__) = true)
    (mk_CheckRule : PySem.W.makesIn K aC_CheckRule = true)
    (kc_CheckRule : PySem.W.keepIn K (.ref aC_CheckRule) = true)
    (af_CheckRule_put_ : PySem.W.findIn K (.ref aC_CheckRule) "put" = some (some (.ref af_CheckRule_put)))
    (fn_CheckRule_put : PySem.W.isFn K (.ref af_CheckRule_put) = true)
    (l_CheckRule_put : K.lookup af_CheckRule_put = some ⟨oc_CheckRule_put, od_CheckRule_put, .func (PySem.W.fnOf "put" "CheckRule.put" (defArgs s_CheckRule_put) (defBody s_CheckRule_put) (defScope s_CheckRule_put) .none kV_CheckRule_put dc_CheckRule_put pm_CheckRule_put an_CheckRule_put cd_CheckRule_put ct_CheckRule_put), sl_CheckRule_put⟩)
    (cc_CheckRule_put : PySem.W.codeIn K cd_CheckRule_put "CheckRule.put" = true)
    (k_CheckRule_put : PySem.W.keepIn K (.ref af_CheckRule_put) = true)
    (af__law_deal_ : PySem.W.nsIn K mainGlobals "_law_deal" = some (some (.ref af__law_deal)))
    (l__law_deal : K.lookup af__law_deal = some ⟨oc__law_deal, od__law_deal, .func (PySem.W.fnOf "_law_deal" "_law_deal" (defArgs s__law_deal) (defBody s__law_deal) (defScope s__law_deal) .none kV__law_deal dc__law_deal pm__law_deal an__law_deal cd__law_deal ct__law_deal), sl__law_deal⟩)
    (cc__law_deal : PySem.W.codeIn K cd__law_deal "_law_deal" = true)
    (k__law_deal : PySem.W.keepIn K (.ref af__law_deal) = true)
    (af__law_draw_ : PySem.W.nsIn K mainGlobals "_law_draw" = some (some (.ref af__law_draw)))
    (l__law_draw : K.lookup af__law_draw = some ⟨oc__law_draw, od__law_draw, .func (PySem.W.fnOf "_law_draw" "_law_draw" (defArgs s__law_draw) (defBody s__law_draw) (defScope s__law_draw) .none kV__law_draw dc__law_draw pm__law_draw an__law_draw cd__law_draw ct__law_draw), sl__law_draw⟩)
    (cc__law_draw : PySem.W.codeIn K cd__law_draw "_law_draw" = true)
    (k__law_draw : PySem.W.keepIn K (.ref af__law_draw) = true)
    (af__law_pick_ : PySem.W.nsIn K mainGlobals "_law_pick" = some (some (.ref af__law_pick)))
    (l__law_pick : K.lookup af__law_pick = some ⟨oc__law_pick, od__law_pick, .func (PySem.W.fnOf "_law_pick" "_law_pick" (defArgs s__law_pick) (defBody s__law_pick) (defScope s__law_pick) .none kV__law_pick dc__law_pick pm__law_pick an__law_pick cd__law_pick ct__law_pick), sl__law_pick⟩)
    (cc__law_pick : PySem.W.codeIn K cd__law_pick "_law_pick" = true)
    (k__law_pick : PySem.W.keepIn K (.ref af__law_pick) = true)
    (af__law_stick_ : PySem.W.nsIn K mainGlobals "_law_stick" = some (some (.ref af__law_stick)))
    (l__law_stick : K.lookup af__law_stick = some ⟨oc__law_stick, od__law_stick, .func (PySem.W.fnOf "_law_stick" "_law_stick" (defArgs s__law_stick) (defBody s__law_stick) (defScope s__law_stick) .none kV__law_stick dc__law_stick pm__law_stick an__law_stick cd__law_stick ct__law_stick), sl__law_stick⟩)
    (cc__law_stick : PySem.W.codeIn K cd__law_stick "_law_stick" = true)
    (k__law_stick : PySem.W.keepIn K (.ref af__law_stick) = true)
    (af__law_near_ : PySem.W.nsIn K mainGlobals "_law_near" = some (some (.ref af__law_near)))
    (l__law_near : K.lookup af__law_near = some ⟨oc__law_near, od__law_near, .func (PySem.W.fnOf "_law_near" "_law_near" (defArgs s__law_near) (defBody s__law_near) (defScope s__law_near) .none kV__law_near dc__law_near pm__law_near an__law_near cd__law_near ct__law_near), sl__law_near⟩)
    (cc__law_near : PySem.W.codeIn K cd__law_near "_law_near" = true)
    (k__law_near : PySem.W.keepIn K (.ref af__law_near) = true)
    (af__law_rule_ : PySem.W.nsIn K mainGlobals "_law_rule" = some (some (.ref af__law_rule)))
    (l__law_rule : K.lookup af__law_rule = some ⟨oc__law_rule, od__law_rule, .func (PySem.W.fnOf "_law_rule" "_law_rule" (defArgs s__law_rule) (defBody s__law_rule) (defScope s__law_rule) .none kV__law_rule dc__law_rule pm__law_rule an__law_rule cd__law_rule ct__law_rule), sl__law_rule⟩)
    (cc__law_rule : PySem.W.codeIn K cd__law_rule "_law_rule" = true)
    (k__law_rule : PySem.W.keepIn K (.ref af__law_rule) = true)
    (af__law_any_ : PySem.W.nsIn K mainGlobals "_law_any" = some (some (.ref af__law_any)))
    (l__law_any : K.lookup af__law_any = some ⟨oc__law_any, od__law_any, .func (PySem.W.fnOf "_law_any" "_law_any" (defArgs s__law_any) (defBody s__law_any) (defScope s__law_any) .none kV__law_any dc__law_any pm__law_any an__law_any cd__law_any ct__law_any), sl__law_any⟩)
    (cc__law_any : PySem.W.codeIn K cd__law_any "_law_any" = true)
    (k__law_any : PySem.W.keepIn K (.ref af__law_any) = true)
    (af__law_is_stick_ : PySem.W.nsIn K mainGlobals "_law_is_stick" = some (some (.ref af__law_is_stick)))
    (l__law_is_stick : K.lookup af__law_is_stick = some ⟨oc__law_is_stick, od__law_is_stick, .func (PySem.W.fnOf "_law_is_stick" "_law_is_stick" (defArgs s__law_is_stick) (defBody s__law_is_stick) (defScope s__law_is_stick) .none kV__law_is_stick dc__law_is_stick pm__law_is_stick an__law_is_stick cd__law_is_stick ct__law_is_stick), sl__law_is_stick⟩)
    (cc__law_is_stick : PySem.W.codeIn K cd__law_is_stick "_law_is_stick" = true)
    (k__law_is_stick : PySem.W.keepIn K (.ref af__law_is_stick) = true)
    (af__law_due_ : PySem.W.nsIn K mainGlobals "_law_due" = some (some (.ref af__law_due)))
    (l__law_due : K.lookup af__law_due = some ⟨oc__law_due, od__law_due, .func (PySem.W.fnOf "_law_due" "_law_due" (defArgs s__law_due) (defBody s__law_due) (defScope s__law_due) .none kV__law_due dc__law_due pm__law_due an__law_due cd__law_due ct__law_due), sl__law_due⟩)
    (cc__law_due : PySem.W.codeIn K cd__law_due "_law_due" = true)
    (k__law_due : PySem.W.keepIn K (.ref af__law_due) = true)
    (af__law_refused_ : PySem.W.nsIn K mainGlobals "_law_refused" = some (some (.ref af__law_refused)))
    (l__law_refused : K.lookup af__law_refused = some ⟨oc__law_refused, od__law_refused, .func (PySem.W.fnOf "_law_refused" "_law_refused" (defArgs s__law_refused) (defBody s__law_refused) (defScope s__law_refused) .none kV__law_refused dc__law_refused pm__law_refused an__law_refused cd__law_refused ct__law_refused), sl__law_refused⟩)
    (cc__law_refused : PySem.W.codeIn K cd__law_refused "_law_refused" = true)
    (k__law_refused : PySem.W.keepIn K (.ref af__law_refused) = true)
    (af__law_unput_ : PySem.W.nsIn K mainGlobals "_law_unput" = some (some (.ref af__law_unput)))
    (l__law_unput : K.lookup af__law_unput = some ⟨oc__law_unput, od__law_unput, .func (PySem.W.fnOf "_law_unput" "_law_unput" (defArgs s__law_unput) (defBody s__law_unput) (defScope s__law_unput) .none kV__law_unput dc__law_unput pm__law_unput an__law_unput cd__law_unput ct__law_unput), sl__law_unput⟩)
    (cc__law_unput : PySem.W.codeIn K cd__law_unput "_law_unput" = true)
    (k__law_unput : PySem.W.keepIn K (.ref af__law_unput) = true)
    (af_law_ : PySem.W.nsIn K mainGlobals "law" = some (some (.ref af_law)))
    (l_law : K.lookup af_law = some ⟨oc_law, od_law, .func (PySem.W.fnOf "law" "law" (defArgs s_law) (defBody s_law) (defScope s_law) .none kV_law dc_law pm_law an_law cd_law ct_law), sl_law⟩)
    (cc_law : PySem.W.codeIn K cd_law "law" = true)
    (k_law : PySem.W.keepIn K (.ref af_law) = true)
    (ti_InvalidRule : PySem.W.typeIn K (.ref af_InvalidRule___init__) = some (.type "function"))
    : ∃ fd : FuncData, (∀ (s : Shared) (v : Value), BindsTo s fd ⟨[v], []⟩ [("_law_script", v)]) ∧ ∀ base : Heap, K.In base → base.Ns mainGlobals mg → FnOk l.prog w K mg base CX0 16 fa fd ["_law_script"] (spA K c_law) := by
  have e := hfa.symm.trans (PySem.W.mg_of X G af_law_)
  have e2 : af_law = fa := by cases e; rfl
  subst e2
  have F_InvalidRule___init__ := fun_mk (st := s_InvalidRule___init__) l_InvalidRule___init__ cc_InvalidRule___init__ k_InvalidRule___init__
  have F_is_sequence := fun_mk (st := s_is_sequence) l_is_sequence cc_is_sequence k_is_sequence
  have F_is_stick := fun_mk (st := s_is_stick) l_is_stick cc_is_stick k_is_stick
  have F_first_misfit := fun_mk (st := s_first_misfit) l_first_misfit cc_first_misfit k_first_misfit
  have F_CheckRule___init__ : FunD K "__init__" "CheckRule.__init__" (defArgs s_CheckRule___init__) (defBody s_CheckRule___init__) (defScope s_CheckRule___init__) [] [] af_CheckRule___init__ (PySem.W.fnOf "__init__" "CheckRule.__init__" (defArgs s_CheckRule___init__) (defBody s_CheckRule___init__) (defScope s_CheckRule___init__) .none kV_CheckRule___init__ dc_CheckRule___init__ pm_CheckRule___init__ an_CheckRule___init__ cd_CheckRule___init__ ct_CheckRule___init__) := ⟨⟨_, _, _, _, _, _, _, _, _, _, rfl, l_CheckRule___init__, cc_CheckRule___init__, .inl ⟨rfl, rfl⟩, .inl rfl⟩, k_CheckRule___init__⟩
  have F_CheckRule_put : FunD K "put" "CheckRule.put" (defArgs s_CheckRule_put) (defBody s_CheckRule_put) (defScope s_CheckRule_put) [] [] af_CheckRule_put (PySem.W.fnOf "put" "CheckRule.put" (defArgs s_CheckRule_put) (defBody s_CheckRule_put) (defScope s_CheckRule_put) .none kV_CheckRule_put dc_CheckRule_put pm_CheckRule_put an_CheckRule_put cd_CheckRule_put ct_CheckRule_put) := ⟨⟨_, _, _, _, _, _, _, _, _, _, rfl, l_CheckRule_put, cc_CheckRule_put, .inl ⟨rfl, rfl⟩, .inl rfl⟩, k_CheckRule_put⟩
  have F__law_deal := fun_mk (st := s__law_deal) l__law_deal cc__law_deal k__law_deal
  have F__law_draw := fun_mk (st := s__law_draw) l__law_draw cc__law_draw k__law_draw
  have F__law_pick := fun_mk (st := s__law_pick) l__law_pick cc__law_pick k__law_pick
  have F__law_stick := fun_mk (st := s__law_stick) l__law_stick cc__law_stick k__law_stick
  have F__law_near := fun_mk (st := s__law_near) l__law_near cc__law_near k__law_near
  have F__law_rule := fun_mk (st := s__law_rule) l__law_rule cc__law_rule k__law_rule
  have F__law_any := fun_mk (st := s__law_any) l__law_any cc__law_any k__law_any
  have F__law_is_stick := fun_mk (st := s__law_is_stick) l__law_is_stick cc__law_is_stick k__law_is_stick
  have F__law_due := fun_mk (st := s__law_due) l__law_due cc__law_due k__law_due
  have F__law_refused := fun_mk (st := s__law_refused) l__law_refused cc__law_refused k__law_refused
  have F__law_unput := fun_mk (st := s__law_unput) l__law_unput cc__law_unput k__law_unput
  have F_law := fun_mk (st := s_law) l_law cc_law k_law
  let T : Txt K mg := {
    n_abs := PySem.W.mg_none_of X G z_abs,
    n_enumerate := PySem.W.mg_none_of X G z_enumerate,
    n_int := PySem.W.mg_none_of X G z_int,
    n_isinstance := PySem.W.mg_none_of X G z_isinstance,
    n_len := PySem.W.mg_none_of X G z_len,
    n_list := PySem.W.mg_none_of X G z_list,
    n_max := PySem.W.mg_none_of X G z_max,
    n_min := PySem.W.mg_none_of X G z_min,
    n_range := PySem.W.mg_none_of X G z_range,
    n_repr := PySem.W.mg_none_of X G z_repr,
    n_str := PySem.W.mg_none_of X G z_str,
    n_tuple := PySem.W.mg_none_of X G z_tuple,
    t_PLAIN := tk_PLAIN,
    g_PLAIN := PySem.W.mg_of X G zc_PLAIN,
    t_SIGNS := tk_SIGNS,
    g_SIGNS := PySem.W.mg_of X G zc_SIGNS,
    C_InvalidRule := aC_InvalidRule,
    g_InvalidRule := PySem.W.mg_of X G zC_InvalidRule,
    C_InvalidStick := aC_InvalidStick,
    g_InvalidStick := PySem.W.mg_of X G zC_InvalidStick,
    C_InvalidText := aC_InvalidText,
    g_InvalidText := PySem.W.mg_of X G zC_InvalidText,
    C_StickError := aC_StickError,
    g_StickError := PySem.W.mg_of X G zC_StickError,
    e_InvalidRule := ⟨e1_InvalidRule, e2_InvalidRule, b_InvalidRule, hd_InvalidRule, e3_InvalidRule, e4_InvalidRule, e5_InvalidRule, e6_InvalidRule⟩,
    te_InvalidRule := PySem.W.exm_ref b_InvalidRule hd_InvalidRule ty_InvalidRule ss_InvalidRule,
    o_InvalidRule := ⟨⟨_, _, _, _, _, _, _, _, _, _, _, _, _, _, _, oc_InvalidRule, rv_InvalidRule⟩, sa_InvalidRule, b_InvalidRule, ty_InvalidRule, k_InvalidRule⟩,
    xf_InvalidRule := ⟨e1_InvalidRule, e2_InvalidRule, b_InvalidRule, hd_InvalidRule⟩,
    nf_InvalidRule := nf_InvalidRule,
    e_InvalidStick := ⟨e1_InvalidStick, e2_InvalidStick, b_InvalidStick, hd_InvalidStick, e3_InvalidStick, e4_InvalidStick, e5_InvalidStick, e6_InvalidStick⟩,
    te_InvalidStick := PySem.W.exm_ref b_InvalidStick hd_InvalidStick ty_InvalidStick ss_InvalidStick,
    x_InvalidStick := x_InvalidStick,
    k_InvalidStick := k_InvalidStick,
    b_InvalidStick := b_InvalidStick,
    t_InvalidStick := ty_InvalidStick,
    kx_InvalidRule_StickError := kit_own hd_StickError ty_StickError ss_InvalidRule sx_InvalidRule_StickError,
    kx_InvalidRule_InvalidText := kit_own hd_InvalidText ty_InvalidText ss_InvalidRule sx_InvalidRule_InvalidText,
    kx_InvalidStick_StickError := kit_own hd_StickError ty_StickError ss_InvalidStick sx_InvalidStick_StickError,
    C_CheckRule := aC_CheckRule,
    g_CheckRule := PySem.W.mg_of X G zC_CheckRule,
    cl_CheckRule := ⟨pg_CheckRule, hd_CheckRule, po_CheckRule, sa_CheckRule⟩,
    no_CheckRule_checks := na_CheckRule_checks,
    isi_CheckRule := ⟨⟨pg_CheckRule, hd_CheckRule, po_CheckRule, sa_CheckRule⟩, i1_CheckRule, i2_CheckRule, i3_CheckRule, i4_CheckRule, if_pos (beq_self_eq_true _)⟩,
    ow_CheckRule := ⟨⟨⟨pg_CheckRule, hd_CheckRule, po_CheckRule, sa_CheckRule⟩, i1_CheckRule, i2_CheckRule, i3_CheckRule, i4_CheckRule, if_pos (beq_self_eq_true _)⟩, own_str, own_list, own_tuple⟩,
    a_InvalidRule___init__ := af_InvalidRule___init__,
    d_InvalidRule___init__ := _,
    F_InvalidRule___init__ := F_InvalidRule___init__,
    b_InvalidRule___init__ := F_InvalidRule___init__.binds (ps := ["self", "at"]) fun _ _ _ _ _ _ us hl => match us, hl with | [_, _], _ => rfl,
    a_is_sequence := af_is_sequence,
    d_is_sequence := _,
    F_is_sequence := F_is_sequence,
    b_is_sequence := F_is_sequence.binds (ps := ["value"]) fun _ _ _ _ _ _ us hl => match us, hl with | [_], _ => rfl,
    g_is_sequence := PySem.W.mg_of X G af_is_sequence_,
    a_is_stick := af_is_stick,
    d_is_stick := _,
    F_is_stick := F_is_stick,
    b_is_stick := F_is_stick.binds (ps := ["value"]) fun _ _ _ _ _ _ us hl => match us, hl with | [_], _ => rfl,
    g_is_stick := PySem.W.mg_of X G af_is_stick_,
    a_first_misfit := af_first_misfit,
    d_first_misfit := _,
    F_first_misfit := F_first_misfit,
    b_first_misfit := F_first_misfit.binds (ps := ["checks"]) fun _ _ _ _ _ _ us hl => match us, hl with | [_], _ => rfl,
    g_first_misfit := PySem.W.mg_of X G af_first_misfit_,
    a_CheckRule___init__ := af_CheckRule___init__,
    d_CheckRule___init__ := _,
    F_CheckRule___init__ := F_CheckRule___init__,
    b_CheckRule___init__ := F_CheckRule___init__.bindsN (ps := ["self", "checks"]) fun _ _ _ _ _ _ us hl => match us, hl with | [_, _], _ => rfl,
    mk_CheckRule := ⟨mk_CheckRule, af_CheckRule___init___, fn_CheckRule___init__, kc_CheckRule⟩,
    a_CheckRule_put := af_CheckRule_put,
    d_CheckRule_put := _,
    F_CheckRule_put := F_CheckRule_put,
    b_CheckRule_put := F_CheckRule_put.bindsN (ps := ["self", "stick"]) fun _ _ _ _ _ _ us hl => match us, hl with | [_, _], _ => rfl,
    me_CheckRule_put := ⟨af_CheckRule_put_, fn_CheckRule_put, k_CheckRule_put⟩,
    a__law_deal := af__law_deal,
    d__law_deal := _,
    F__law_deal := F__law_deal,
    b__law_deal := F__law_deal.binds (ps := ["_law_script", "_law_base"]) fun _ _ _ _ _ _ us hl => match us, hl with | [_, _], _ => rfl,
    g__law_deal := PySem.W.mg_of X G af__law_deal_,
    a__law_draw := af__law_draw,
    d__law_draw := _,
    F__law_draw := F__law_draw,
    b__law_draw := F__law_draw.binds (ps := ["_law_deal_here", "_law_bound"]) fun _ _ _ _ _ _ us hl => match us, hl with | [_, _], _ => rfl,
    g__law_draw := PySem.W.mg_of X G af__law_draw_,
    a__law_pick := af__law_pick,
    d__law_pick := _,
    F__law_pick := F__law_pick,
    b__law_pick := F__law_pick.binds (ps := ["_law_deal_here", "_law_some"]) fun _ _ _ _ _ _ us hl => match us, hl with | [_, _], _ => rfl,
    g__law_pick := PySem.W.mg_of X G af__law_pick_,
    a__law_stick := af__law_stick,
    d__law_stick := _,
    F__law_stick := F__law_stick,
    b__law_stick := F__law_stick.binds (ps := ["_law_deal_here", "_law_length"]) fun _ _ _ _ _ _ us hl => match us, hl with | [_, _], _ => rfl,
    g__law_stick := PySem.W.mg_of X G af__law_stick_,
    a__law_near := af__law_near,
    d__law_near := _,
    F__law_near := F__law_near,
    b__law_near := F__law_near.binds (ps := ["_law_deal_here", "_law_stick_here"]) fun _ _ _ _ _ _ us hl => match us, hl with | [_, _], _ => rfl,
    g__law_near := PySem.W.mg_of X G af__law_near_,
    a__law_rule := af__law_rule,
    d__law_rule := _,
    F__law_rule := F__law_rule,
    b__law_rule := F__law_rule.binds (ps := ["_law_deal_here", "_law_most", "_law_wide"]) fun _ _ _ _ _ _ us hl => match us, hl with | [_, _, _], _ => rfl,
    g__law_rule := PySem.W.mg_of X G af__law_rule_,
    a__law_any := af__law_any,
    d__law_any := _,
    F__law_any := F__law_any,
    b__law_any := F__law_any.binds (ps := ["_law_deal_here", "_law_deep", "_law_made"]) fun _ _ _ _ _ _ us hl => match us, hl with | [_, _, _], _ => rfl,
    g__law_any := PySem.W.mg_of X G af__law_any_,
    a__law_is_stick := af__law_is_stick,
    d__law_is_stick := _,
    F__law_is_stick := F__law_is_stick,
    b__law_is_stick := F__law_is_stick.binds (ps := ["_law_value"]) fun _ _ _ _ _ _ us hl => match us, hl with | [_], _ => rfl,
    g__law_is_stick := PySem.W.mg_of X G af__law_is_stick_,
    a__law_due := af__law_due,
    d__law_due := _,
    F__law_due := F__law_due,
    b__law_due := F__law_due.binds (ps := ["_law_value"]) fun _ _ _ _ _ _ us hl => match us, hl with | [_], _ => rfl,
    g__law_due := PySem.W.mg_of X G af__law_due_,
    a__law_refused := af__law_refused,
    d__law_refused := _,
    F__law_refused := F__law_refused,
    b__law_refused := F__law_refused.binds (ps := ["_law_value"]) fun _ _ _ _ _ _ us hl => match us, hl with | [_], _ => rfl,
    g__law_refused := PySem.W.mg_of X G af__law_refused_,
    a__law_unput := af__law_unput,
    d__law_unput := _,
    F__law_unput := F__law_unput,
    b__law_unput := F__law_unput.binds (ps := ["_law_made", "_law_value"]) fun _ _ _ _ _ _ us hl => match us, hl with | [_, _], _ => rfl,
    g__law_unput := PySem.W.mg_of X G af__law_unput_,
    a_law := af_law,
    d_law := _,
    F_law := F_law,
    b_law := F_law.binds (ps := ["_law_script"]) fun _ _ _ _ _ _ us hl => match us, hl with | [_], _ => rfl,
    g_law := PySem.W.mg_of X G af_law_,
    i_InvalidRule := af_InvalidRule___init___,
    ti_InvalidRule := ti_InvalidRule }
  exact ⟨T.d_law, fun s v => .of_eq rfl, fun base _ _ => ok_law (P := l.prog) (w := w) (base := base) T⟩
end Law
open PySem PySem.W PyProof.Rows
set_option maxRecDepth 100000 in
set_option maxHeartbeats 0 in
theorem PySem.Challenge.cw_notchsafe_k37_check_rules_refused_holds : PySem.Challenge.rw_notchsafe_k37_check_rules_refused.Holds := by
  w_on; o_law; k_head; (case hw => w_witness2)
  k_fill
  refine L2.walk_ofK (l := PySem.Challenge.rw_notchsafe_k37_check_rules_refused) (n := 63) (k := 16) (x := "_law_script") (CX := L2.CX0) (sp := fun K => L3.spA K Law.c_law) rfl (by decide) rfl ⟨rfl, by decide, by decide⟩ (fun w h Y => PySem.W.kIn_of Y) ?F Law.law_in (fun _ _ _ _ h => h)
  case F =>
    intro w mg fa h KX G hmg
    refine' Law.all_mk KX G hmg ?z_abs ?z_enumerate ?z_int ?z_isinstance ?z_len ?z_list ?z_max ?z_min ?z_range ?z_repr ?z_str ?z_tuple ?zc_PLAIN ?zc_SIGNS ?zC_InvalidRule ?hd_InvalidRule ?ty_InvalidRule ?zC_InvalidStick ?hd_InvalidStick ?ty_InvalidStick ?zC_InvalidText ?hd_InvalidText ?ty_InvalidText ?zC_StickError ?hd_StickError ?ty_StickError ?k_InvalidRule ?b_InvalidRule ?ss_InvalidRule ?e1_InvalidRule ?e2_InvalidRule ?e3_InvalidRule ?e4_InvalidRule ?e5_InvalidRule ?e6_InvalidRule ?oc_InvalidRule ?rv_InvalidRule ?sa_InvalidRule ?nf_InvalidRule ?k_InvalidStick ?b_InvalidStick ?ss_InvalidStick ?e1_InvalidStick ?e2_InvalidStick ?e3_InvalidStick ?e4_InvalidStick ?e5_InvalidStick ?e6_InvalidStick ?x_InvalidStick ?sx_InvalidRule_StickError ?sx_InvalidRule_InvalidText ?sx_InvalidStick_StickError ?zC_CheckRule ?pg_CheckRule ?hd_CheckRule ?po_CheckRule ?sa_CheckRule ?na_CheckRule_checks ?i1_CheckRule ?i2_CheckRule ?i3_CheckRule ?i4_CheckRule ?own_str ?own_list ?own_tuple ?af_InvalidRule___init___ ?fn_InvalidRule___init__ ?l_InvalidRule___init__ ?cc_InvalidRule___init__ ?k_InvalidRule___init__ ?af_is_sequence_ ?l_is_sequence ?cc_is_sequence ?k_is_sequence ?af_is_stick_ ?l_is_stick ?cc_is_stick ?k_is_stick ?af_first_misfit_ ?l_first_misfit ?cc_first_misfit ?k_first_misfit ?af_CheckRule___init___ ?fn_CheckRule___init__ ?l_CheckRule___init__ ?cc_CheckRule___init__ ?k_CheckRule___init__ ?mk_CheckRule ?kc_CheckRule ?af_CheckRule_put_ ?fn_CheckRule_put ?l_CheckRule_put ?cc_CheckRule_put ?k_CheckRule_put ?af__law_deal_ ?l__law_deal ?cc__law_deal ?k__law_deal ?af__law_draw_ ?l__law_draw ?cc__law_draw ?k__law_draw ?af__law_pick_ ?l__law_pick ?cc__law_pick ?k__law_pick ?af__law_stick_ ?l__law_stick ?cc__law_stick ?k__law_stick ?af__law_near_ ?l__law_near ?cc__law_near ?k__law_near ?af__law_rule_ ?l__law_rule ?cc__law_rule ?k__law_rule ?af__law_any_ ?l__law_any ?cc__law_any ?k__law_any ?af__law_is_stick_ ?l__law_is_stick ?cc__law_is_stick ?k__law_is_stick ?af__law_due_ ?l__law_due ?cc__law_due ?k__law_due ?af__law_refused_ ?l__law_refused ?cc__law_refused ?k__law_refused ?af__law_unput_ ?l__law_unput ?cc__law_unput ?k__law_unput ?af_law_ ?l_law ?cc_law ?k_law ?ti_InvalidRule
    (case z_abs => k_is); (case z_enumerate => k_is); (case z_int => k_is); (case z_isinstance => k_is); (case z_len => k_is); (case z_list => k_is)
    (case z_max => k_is); (case z_min => k_is); (case z_range => k_is); (case z_repr => k_is); (case z_str => k_is); (case z_tuple => k_is)
    (case zc_PLAIN => k_is); (case zc_SIGNS => k_is); (case zC_InvalidRule => k_is); (case hd_InvalidRule => k_is); (case ty_InvalidRule => k_is); (case zC_InvalidStick => k_is)
    (case hd_InvalidStick => k_is); (case ty_InvalidStick => k_is); (case zC_InvalidText => k_is); (case hd_InvalidText => k_is); (case ty_InvalidText => k_is); (case zC_StickError => k_is)
    (case hd_StickError => k_is); (case ty_StickError => k_is); (case k_InvalidRule => k_is); (case b_InvalidRule => k_is); (case ss_InvalidRule => k_is); (case e1_InvalidRule => k_is)
    (case e2_InvalidRule => k_is); (case e3_InvalidRule => k_is); (case e4_InvalidRule => k_is); (case e5_InvalidRule => k_is); (case e6_InvalidRule => k_is); (case oc_InvalidRule => k_is)
    (case rv_InvalidRule => decide +kernel); (case sa_InvalidRule => k_is); (case nf_InvalidRule => k_is); (case k_InvalidStick => k_is); (case b_InvalidStick => k_is); (case ss_InvalidStick => k_is)
    (case e1_InvalidStick => k_is); (case e2_InvalidStick => k_is); (case e3_InvalidStick => k_is); (case e4_InvalidStick => k_is); (case e5_InvalidStick => k_is); (case e6_InvalidStick => k_is)
    (case x_InvalidStick => k_exc); (case sx_InvalidRule_StickError => k_is); (case sx_InvalidRule_InvalidText => k_is); (case sx_InvalidStick_StickError => k_is); (case zC_CheckRule => k_is); (case pg_CheckRule => k_is)
    (case hd_CheckRule => k_is); (case po_CheckRule => k_is); (case sa_CheckRule => k_is); (case na_CheckRule_checks => k_is); (case i1_CheckRule => k_is); (case i2_CheckRule => k_is)
    (case i3_CheckRule => k_is); (case i4_CheckRule => k_is); (case own_str => k_is); (case own_list => k_is); (case own_tuple => k_is); (case af_InvalidRule___init___ => k_is)
    (case fn_InvalidRule___init__ => k_is); (case l_InvalidRule___init__ => k_is); (case cc_InvalidRule___init__ => k_is); (case k_InvalidRule___init__ => k_is); (case af_is_sequence_ => k_is); (case l_is_sequence => k_is)
    (case cc_is_sequence => k_is); (case k_is_sequence => k_is); (case af_is_stick_ => k_is); (case l_is_stick => k_is); (case cc_is_stick => k_is); (case k_is_stick => k_is)
    (case af_first_misfit_ => k_is); (case l_first_misfit => k_is); (case cc_first_misfit => k_is); (case k_first_misfit => k_is); (case af_CheckRule___init___ => k_is); (case fn_CheckRule___init__ => k_is)
    (case l_CheckRule___init__ => k_is); (case cc_CheckRule___init__ => k_is); (case k_CheckRule___init__ => k_is); (case mk_CheckRule => k_is); (case kc_CheckRule => k_is); (case af_CheckRule_put_ => k_is)
    (case fn_CheckRule_put => k_is); (case l_CheckRule_put => k_is); (case cc_CheckRule_put => k_is); (case k_CheckRule_put => k_is); (case af__law_deal_ => k_is); (case l__law_deal => k_is)
    (case cc__law_deal => k_is); (case k__law_deal => k_is); (case af__law_draw_ => k_is); (case l__law_draw => k_is); (case cc__law_draw => k_is); (case k__law_draw => k_is)
    (case af__law_pick_ => k_is); (case l__law_pick => k_is); (case cc__law_pick => k_is); (case k__law_pick => k_is); (case af__law_stick_ => k_is); (case l__law_stick => k_is)
    (case cc__law_stick => k_is); (case k__law_stick => k_is); (case af__law_near_ => k_is); (case l__law_near => k_is); (case cc__law_near => k_is); (case k__law_near => k_is)
    (case af__law_rule_ => k_is); (case l__law_rule => k_is); (case cc__law_rule => k_is); (case k__law_rule => k_is); (case af__law_any_ => k_is); (case l__law_any => k_is)
    (case cc__law_any => k_is); (case k__law_any => k_is); (case af__law_is_stick_ => k_is); (case l__law_is_stick => k_is); (case cc__law_is_stick => k_is); (case k__law_is_stick => k_is)
    (case af__law_due_ => k_is); (case l__law_due => k_is); (case cc__law_due => k_is); (case k__law_due => k_is); (case af__law_refused_ => k_is); (case l__law_refused => k_is)
    (case cc__law_refused => k_is); (case k__law_refused => k_is); (case af__law_unput_ => k_is); (case l__law_unput => k_is); (case cc__law_unput => k_is); (case k__law_unput => k_is)
    (case af_law_ => k_is); (case l_law => k_is); (case cc_law => k_is); (case k_law => k_is); (case ti_InvalidRule => k_is)
