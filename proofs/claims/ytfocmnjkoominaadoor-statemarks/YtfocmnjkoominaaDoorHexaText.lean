/- Plain facts on hexadecimal texts: reading is the inverse of writing, and the order of texts is that of numbers. No Go in sight. -/
import Derived.Test.YtfocmnjkoominaaDoorHexaMath
import GoSem.Op.String
namespace Go.Proofs.YtfocmnjkoominaaDoor.HexaMath

theorem snocInd {α : Type _} {motive : List α → Prop} (l : List α) (nil : motive []) (snoc : ∀ l c, motive l → motive (l ++ [c])) : motive l := by
  have h : ∀ l : List α, motive l.reverse := by
    intro l
    induction l with
    | nil => exact nil
    | cons a l ih => rw [List.reverse_cons]; exact snoc _ _ ih
  have := h l.reverse
  rwa [List.reverse_reverse] at this

/-! ### digits -/
def isHex (c : UInt8) : Bool := (48 ≤ c.toNat && c.toNat ≤ 57) || (97 ≤ c.toNat && c.toNat ≤ 102)
def dval (c : UInt8) : Nat := if c.toNat ≤ 57 then c.toNat - 48 else c.toNat - 87
theorem dig_all : ∀ i : Fin 16, isHex (dig i.val) = true ∧ dval (dig i.val) = i.val := by decide +kernel
theorem dig_mod (d : Nat) : dig d = dig (d % 16) := by unfold dig; rw [Nat.mod_mod]
theorem dig_hex (d : Nat) : isHex (dig d) = true := by
  rw [dig_mod]; exact (dig_all ⟨d % 16, Nat.mod_lt _ (by decide)⟩).1
theorem dval_dig (d : Nat) : dval (dig d) = d % 16 := by
  rw [dig_mod]; exact (dig_all ⟨d % 16, Nat.mod_lt _ (by decide)⟩).2
theorem hex_all : ∀ i : Fin 256, isHex (UInt8.ofNat i.val) = true → dig (dval (UInt8.ofNat i.val)) = UInt8.ofNat i.val ∧ dval (UInt8.ofNat i.val) < 16 := by decide +kernel
theorem dig_dval (c : UInt8) (h : isHex c = true) : dig (dval c) = c ∧ dval c < 16 := by
  have e : UInt8.ofNat c.toNat = c := UInt8.ofNat_toNat
  have := hex_all ⟨c.toNat, c.toNat_lt⟩
  simp only [e] at this
  exact this h
theorem dig_lt_all : ∀ i j : Fin 16, (dig i.val < dig j.val) ↔ i.val < j.val := by decide +kernel
theorem dig_lt (a b : Nat) : (dig a < dig b) ↔ a % 16 < b % 16 := by
  rw [dig_mod a, dig_mod b]
  exact dig_lt_all ⟨a % 16, Nat.mod_lt _ (by decide)⟩ ⟨b % 16, Nat.mod_lt _ (by decide)⟩
theorem dig_inj (a b : Nat) (h : dig a = dig b) : a % 16 = b % 16 := by
  rw [← dval_dig a, ← dval_dig b, h]

/-! ### numbers of k digits -/
def num (l : List UInt8) : Nat := l.foldl (fun n c => n * 16 + dval c) 0
theorem num_snoc (l : List UInt8) (c : UInt8) : num (l ++ [c]) = num l * 16 + dval c := by
  unfold num; rw [List.foldl_append, List.foldl_cons, List.foldl_nil]
theorem num_lt (l : List UInt8) (h : l.all isHex = true) : num l < 16 ^ l.length := by
  induction l using snocInd with
  | nil => exact Nat.one_pos
  | snoc l c ih =>
    rw [List.all_append, Bool.and_eq_true] at h
    have h1 := ih h.1
    have h2 := (dig_dval c (by simpa using h.2)).2
    rw [num_snoc, List.length_append, List.length_singleton, Nat.pow_succ]
    omega
def rvk : Nat → Nat → List UInt8
  | 0, _ => []
  | k + 1, n => rvk k (n / 16) ++ [dig n]
theorem rvk_length (k n : Nat) : (rvk k n).length = k := by
  induction k generalizing n with
  | zero => rfl
  | succ k ih => rw [rvk, List.length_append, ih]; rfl
theorem rvk_hex (k n : Nat) : (rvk k n).all isHex = true := by
  induction k generalizing n with
  | zero => rfl
  | succ k ih => rw [rvk, List.all_append, ih]; simp [dig_hex]
theorem rvk_map (k n : Nat) : rvk k n = (List.range k).map (fun j => dig (n / 16 ^ (k - 1 - j))) := by
  induction k generalizing n with
  | zero => rfl
  | succ k ih =>
    rw [rvk, ih, List.range_succ, List.map_append]
    congr 1
    · apply List.map_congr_left
      intro j hj
      have hj' : j < k := by simpa using hj
      rw [Nat.div_div_eq_div_mul, Nat.mul_comm, ← Nat.pow_succ, show (k - 1 - j).succ = k + 1 - 1 - j from by omega]
    · simp
theorem rv_eq (n : Nat) : rv n = rvk 14 n := by rw [rvk_map]; rfl
theorem num_rvk (k n : Nat) : num (rvk k n) = n % 16 ^ k := by
  induction k generalizing n with
  | zero => rw [Nat.pow_zero, Nat.mod_one]; rfl
  | succ k ih =>
    rw [rvk, num_snoc, ih, dval_dig, Nat.pow_succ, Nat.mul_comm (16 ^ k) 16, Nat.mod_mul]
    omega
theorem rvk_num (l : List UInt8) (h : l.all isHex = true) : rvk l.length (num l) = l := by
  induction l using snocInd with
  | nil => rfl
  | snoc l c ih =>
    rw [List.all_append, Bool.and_eq_true] at h
    have h2 := dig_dval c (by simpa using h.2)
    rw [List.length_append, List.length_singleton, rvk, num_snoc, show (num l * 16 + dval c) / 16 = num l from by omega, ih h.1, dig_mod,
      show (num l * 16 + dval c) % 16 = dval c from by omega, h2.1]
theorem num_rv (n : Nat) (h : n < 72057594037927936) : num (rv n) = n := by
  rw [rv_eq, num_rvk]; exact Nat.mod_eq_of_lt h
theorem rv_num (l : List UInt8) (h : l.all isHex = true) (hl : l.length = 14) : rv (num l) = l := by
  rw [rv_eq, ← hl]; exact rvk_num l h

/-! ### the order -/
theorem less_snoc (x y : List UInt8) (c d : UInt8) (h : x.length = y.length) : Op.bytesLess (x ++ [c]) (y ++ [d]) = (Op.bytesLess x y || (x == y && decide (c < d))) := by
  induction x generalizing y with
  | nil =>
    cases y with
    | nil => simp [Op.bytesLess]
    | cons b y => simp at h
  | cons a x ih =>
    cases y with
    | nil => simp at h
    | cons b y =>
      have h' : x.length = y.length := by simpa using h
      simp only [List.cons_append, Op.bytesLess, ih y h']
      by_cases hab : a < b
      · simp [hab]
      · by_cases e : a = b
        · subst e; simp [hab]
        · have e' : (a == b) = false := beq_eq_false_iff_ne.2 e
          simp [hab, e']
theorem rvk_inj (k a b : Nat) (h : rvk k a = rvk k b) : a % 16 ^ k = b % 16 ^ k := by rw [← num_rvk, ← num_rvk, h]
theorem less_rvk (k a b : Nat) : Op.bytesLess (rvk k a) (rvk k b) = decide (a % 16 ^ k < b % 16 ^ k) := by
  induction k generalizing a b with
  | zero => rw [Nat.pow_zero, Nat.mod_one, Nat.mod_one]; rfl
  | succ k ih =>
    rw [rvk, rvk, less_snoc _ _ _ _ (by rw [rvk_length, rvk_length]), ih, Nat.pow_succ, Nat.mul_comm (16 ^ k) 16, Nat.mod_mul, Nat.mod_mul]
    have hd := dig_lt a b
    by_cases e : a / 16 % 16 ^ k = b / 16 % 16 ^ k
    · have e' : rvk k (a / 16) = rvk k (b / 16) := by
        have h1 := rvk_num (rvk k (a / 16)) (rvk_hex _ _)
        have h2 := rvk_num (rvk k (b / 16)) (rvk_hex _ _)
        rw [rvk_length, num_rvk] at h1 h2
        rw [← h1, ← h2, e]
      rw [e', e]
      simp [hd]
    · have e' : (rvk k (a / 16) == rvk k (b / 16)) = false := by
        rw [beq_eq_false_iff_ne]; intro h; exact e (rvk_inj k _ _ h)
      rw [e', Bool.false_and, Bool.or_false, decide_eq_decide]
      have := Nat.mod_lt a (show 16 > 0 by decide)
      have := Nat.mod_lt b (show 16 > 0 by decide)
      omega
theorem less_rv (a b : Nat) (ha : a < 72057594037927936) (hb : b < 72057594037927936) : Op.bytesLess (rv a) (rv b) = decide (a < b) := by
  rw [rv_eq, rv_eq, less_rvk, Nat.mod_eq_of_lt ha, Nat.mod_eq_of_lt hb]

/-! ### zeros at the end -/
/-- nothing, or a last digit that is not 0 -/
def Bare (l : List UInt8) : Prop := ∀ t, l = t ++ [48] → False
theorem bare_tail {c : UInt8} {l : List UInt8} (h : Bare (c :: l)) : Bare l := fun t e => h (c :: t) (by rw [e]; rfl)
theorem bare_zero {l : List UInt8} (h : Bare (48 :: l)) : l ≠ [] := fun e => h [] (by rw [e]; rfl)
theorem less_nil (l : List UInt8) : Op.bytesLess l [] = false := by cases l <;> rfl
theorem less_self (l : List UInt8) : Op.bytesLess l l = false := by
  induction l with
  | nil => rfl
  | cons a l ih => simp [Op.bytesLess, ih]
theorem zeros_less (p q : Nat) (y : List UInt8) (hy : Bare y) (hn : y ≠ []) (h48 : ∀ c ∈ y, (48 : UInt8) ≤ c) (h : p = y.length + q) :
    Op.bytesLess (List.replicate p 48) (y ++ List.replicate q 48) = true := by
  induction y generalizing p with
  | nil => exact absurd rfl hn
  | cons d y ih =>
    obtain ⟨p, rfl⟩ : ∃ p', p = p' + 1 := ⟨y.length + q, by simp at h; omega⟩
    rw [List.replicate_succ, List.cons_append]
    have hd := h48 d (by simp)
    by_cases e : d = 48
    · subst e
      simp only [Op.bytesLess]
      rw [ih p (bare_tail hy) (bare_zero hy) (fun c hc => h48 c (by simp [hc])) (by simp at h; omega)]
      simp
    · have : (48 : UInt8) < d := by
        rw [UInt8.lt_iff_toNat_lt]; rw [UInt8.le_iff_toNat_le] at hd
        have : d.toNat ≠ (48 : UInt8).toNat := fun h => e (UInt8.toNat_inj.1 h)
        omega
      simp [Op.bytesLess, this]
theorem less_zeros (p q : Nat) (x : List UInt8) (h48 : ∀ c ∈ x, (48 : UInt8) ≤ c) (h : x.length + p = q) :
    Op.bytesLess (x ++ List.replicate p 48) (List.replicate q 48) = false := by
  induction x generalizing q with
  | nil => obtain rfl : p = q := by simpa using h
           rw [List.nil_append]; exact less_self _
  | cons c x ih =>
    obtain ⟨q, rfl⟩ : ∃ q', q = q' + 1 := ⟨x.length + p, by simp at h; omega⟩
    rw [List.replicate_succ, List.cons_append]
    have hc := h48 c (by simp)
    have hn : ¬ c < 48 := by rw [UInt8.lt_iff_toNat_lt]; rw [UInt8.le_iff_toNat_le] at hc; omega
    simp only [Op.bytesLess]
    rw [ih q (fun c hc => h48 c (by simp [hc])) (by simp at h; omega)]
    simp [hn]
theorem less_bare (x y : List UInt8) (p q : Nat) (hx : Bare x) (hy : Bare y) (h48x : ∀ c ∈ x, (48 : UInt8) ≤ c) (h48y : ∀ c ∈ y, (48 : UInt8) ≤ c) (h : x.length + p = y.length + q) :
    Op.bytesLess x y = Op.bytesLess (x ++ List.replicate p 48) (y ++ List.replicate q 48) := by
  induction x generalizing y with
  | nil =>
    cases y with
    | nil => obtain rfl : p = q := by simpa using h
             rw [List.nil_append, less_self, less_self]
    | cons d y =>
      rw [List.nil_append, zeros_less p q (d :: y) hy (by simp) h48y (by simpa using h)]; rfl
  | cons c x ih =>
    cases y with
    | nil => rw [List.nil_append, less_zeros p q (c :: x) h48x (by simpa using h), less_nil]
    | cons d y =>
      simp only [List.cons_append, Op.bytesLess]
      rw [ih y (bare_tail hx) (bare_tail hy) (fun c hc => h48x c (by simp [hc])) (fun c hc => h48y c (by simp [hc])) (by simp at h; omega)]

/-- every text is a bare one and zeros behind it -/
theorem bare_split (l : List UInt8) : ∃ t p, l = t ++ List.replicate p 48 ∧ Bare t := by
  induction l using snocInd with
  | nil => exact ⟨[], 0, rfl, fun t e => by simp at e⟩
  | snoc l c ih =>
    by_cases e : c = 48
    · subst e
      obtain ⟨t, p, h, hb⟩ := ih
      exact ⟨t, p + 1, by rw [h, List.append_assoc, List.replicate_succ'], hb⟩
    · refine ⟨l ++ [c], 0, by simp, fun t h => e ?_⟩
      have := congrArg List.getLast? h
      simpa using this
theorem num_zeros (l : List UInt8) (p : Nat) : num (l ++ List.replicate p 48) = num l * 16 ^ p := by
  induction p with
  | zero => simp
  | succ p ih =>
    rw [List.replicate_succ', ← List.append_assoc, num_snoc, ih, Nat.pow_succ, show dval 48 = 0 from rfl, Nat.add_zero, Nat.mul_assoc]
theorem cut_bare (t : List UInt8) (p : Nat) (hb : Bare t) (hn : t ≠ []) : ∀ q, q ≤ p → cut ⟨(t ++ List.replicate p 48).toArray⟩ (t.length + q) = t.length := by
  intro q
  have hpos : 0 < t.length := List.length_pos_iff.2 hn
  induction q with
  | zero =>
    intro _
    rw [Nat.add_zero]
    by_cases h1 : t.length = 1
    · rw [h1]; rfl
    · obtain ⟨j, hj⟩ : ∃ j, t.length = j + 2 := ⟨t.length - 2, by omega⟩
      rw [hj, cut, if_neg]
      show ¬ (t ++ List.replicate p 48).toArray.getD (j + 1) 0 = 48
      rw [Array.getD_eq_getD_getElem?, List.getElem?_toArray, List.getElem?_append_left (by omega)]
      intro h
      have hx : t[j + 1]? = some 48 := by
        rw [List.getElem?_eq_getElem (by omega)] at h ⊢
        simpa using h
      apply hb (t.take (j + 1))
      have hlt : j + 1 < t.length := by omega
      rw [List.getElem?_eq_getElem hlt] at hx
      have := List.take_succ_eq_append_getElem hlt
      rw [Option.some.inj hx, List.take_of_length_le (by omega)] at this
      exact this
  | succ q ih =>
    intro hq
    obtain ⟨j, hj⟩ : ∃ j, t.length + q = j + 1 := ⟨t.length + q - 1, by omega⟩
    rw [show t.length + (q + 1) = j + 2 from by omega, cut, if_pos, ← hj]
    · exact ih (by omega)
    · show (t ++ List.replicate p 48).toArray.getD (j + 1) 0 = 48
      rw [Array.getD_eq_getD_getElem?, List.getElem?_toArray, List.getElem?_append_right (by omega), List.getElem?_replicate, if_pos (by omega)]
      rfl
theorem cut_none : ∀ k, 1 ≤ k → k ≤ 14 → cut ⟨(List.replicate 14 (48 : UInt8)).toArray⟩ k = 1 := by
  intro k h1 h2
  match k, h1, h2 with
  | 1, _, _ => rfl | 2, _, _ => rfl | 3, _, _ => rfl | 4, _, _ => rfl | 5, _, _ => rfl | 6, _, _ => rfl | 7, _, _ => rfl
  | 8, _, _ => rfl | 9, _, _ => rfl | 10, _, _ => rfl | 11, _, _ => rfl | 12, _, _ => rfl | 13, _, _ => rfl | 14, _, _ => rfl

/-- a threshold as text -/
def th (n : Nat) : List UInt8 := (rv n).take (cut ⟨(rv n).toArray⟩ 14)
theorem th_bare {n : Nat} {t : List UInt8} {p : Nat} (h : rv n = t ++ List.replicate p 48) (hb : Bare t) (hn : t ≠ []) : th n = t := by
  have hl : t.length + p = 14 := by have := congrArg List.length h; rw [rv_length] at this; simpa using this.symm
  unfold th
  rw [h, ← hl, cut_bare t p hb hn p (Nat.le_refl _), List.take_left]
theorem rv_zero : rv 0 = List.replicate 14 48 := by decide +kernel
theorem th_zero : th 0 = [48] := by decide +kernel
/-- what the text of a threshold is: "0", or the random value's text bare of its zeros -/
theorem th_char (n : Nat) (hn : n < 72057594037927936) : (n = 0 ∧ th n = [48]) ∨ (0 < n ∧ ∃ p, rv n = th n ++ List.replicate p 48 ∧ Bare (th n) ∧ th n ≠ []) := by
  by_cases h0 : n = 0
  · subst h0; exact .inl ⟨rfl, th_zero⟩
  · obtain ⟨t, p, h, hb⟩ := bare_split (rv n)
    have ht : t ≠ [] := by
      intro e
      subst e
      apply h0
      rw [← num_rv n hn, h, num_zeros]
      show 0 * 16 ^ p = 0
      rw [Nat.zero_mul]
    have e := th_bare h hb ht
    exact .inr ⟨by omega, p, by rw [e]; exact h, by rw [e]; exact hb, by rw [e]; exact ht⟩
theorem hex_ge : ∀ i : Fin 256, isHex (UInt8.ofNat i.val) = true → (48 : UInt8) ≤ UInt8.ofNat i.val := by decide +kernel
theorem hex_48 (c : UInt8) (h : isHex c = true) : (48 : UInt8) ≤ c := by
  have e : UInt8.ofNat c.toNat = c := UInt8.ofNat_toNat
  have := hex_ge ⟨c.toNat, c.toNat_lt⟩
  simp only [e] at this
  exact this h
theorem rv_hex (n : Nat) : (rv n).all isHex = true := by rw [rv_eq]; exact rvk_hex _ _
theorem th_hex (n : Nat) : (th n).all isHex = true := by
  rw [List.all_eq_true]
  intro c hc
  exact List.all_eq_true.1 (rv_hex n) c (List.mem_of_mem_take hc)
theorem less_one (y : List UInt8) (hy : Bare y) (hn : y ≠ []) (h : ∀ c ∈ y, (48 : UInt8) ≤ c) : Op.bytesLess [48] y = true ∧ Op.bytesLess y [48] = false := by
  cases y with
  | nil => exact absurd rfl hn
  | cons d y =>
    have hd := h d (by simp)
    by_cases e : d = 48
    · subst e
      have hy' := bare_zero hy
      cases y with
      | nil => exact absurd rfl hy'
      | cons b y => simp [Op.bytesLess]
    · have h1 : (48 : UInt8) < d := by
        rw [UInt8.lt_iff_toNat_lt]; rw [UInt8.le_iff_toNat_le] at hd
        have : d.toNat ≠ (48 : UInt8).toNat := fun h => e (UInt8.toNat_inj.1 h)
        omega
      have h2 : ¬ d < 48 := by rw [UInt8.lt_iff_toNat_lt] at h1 ⊢; omega
      simp [Op.bytesLess, h1, h2, less_nil]
theorem less_th (a b : Nat) (ha : a < 72057594037927936) (hb : b < 72057594037927936) : Op.bytesLess (th a) (th b) = decide (a < b) := by
  have xa : ∀ c ∈ th a, (48 : UInt8) ≤ c := fun c hc => hex_48 c (List.all_eq_true.1 (th_hex a) c hc)
  have xb : ∀ c ∈ th b, (48 : UInt8) ≤ c := fun c hc => hex_48 c (List.all_eq_true.1 (th_hex b) c hc)
  rcases th_char a ha with ⟨ea, ta⟩ | ⟨pa, p, ra, ba, na⟩ <;> rcases th_char b hb with ⟨eb, tb⟩ | ⟨pb, q, rb, bb, nb⟩
  · rw [ta, tb, ea, eb]; rfl
  · rw [ta, (less_one _ bb nb xb).1, ea]; exact (decide_eq_true pb).symm
  · rw [tb, (less_one _ ba na xa).2, eb]; exact (decide_eq_false (by omega)).symm
  · have hl : (th a).length + p = (th b).length + q := by
      have h1 := congrArg List.length ra
      have h2 := congrArg List.length rb
      rw [rv_length] at h1 h2
      simp at h1 h2
      omega
    rw [less_bare _ _ p q ba bb xa xb hl, ← ra, ← rb, less_rv a b ha hb]

/-- how long the first k bytes are without the bytes c at their end -/
def trim (l : List UInt8) (c : UInt8) : Nat → Nat
  | 0 => 0
  | k + 1 => if l.getD k 0 = c then trim l c k else k + 1
theorem trim_le (l : List UInt8) (c : UInt8) (k : Nat) : trim l c k ≤ k := by
  induction k with
  | zero => exact Nat.le_refl _
  | succ k ih =>
    rw [trim]
    by_cases h : l.getD k 0 = c
    · rw [if_pos h]; omega
    · rw [if_neg h]; omega
theorem trim_bare (t : List UInt8) (p : Nat) (hb : Bare t) : ∀ q, q ≤ p → trim (t ++ List.replicate p 48) 48 (t.length + q) = t.length := by
  intro q
  induction q with
  | zero =>
    intro _
    rw [Nat.add_zero]
    cases h : t.length with
    | zero => rfl
    | succ j =>
      rw [trim, if_neg]
      rw [List.getD_eq_getElem?_getD, List.getElem?_append_left (by omega)]
      intro hx
      have hlt : j < t.length := by omega
      rw [List.getElem?_eq_getElem hlt] at hx
      apply hb (t.take j)
      have := List.take_succ_eq_append_getElem hlt
      have e : t[j] = 48 := by simpa using hx
      rw [e, List.take_of_length_le (by omega)] at this
      exact this
  | succ q ih =>
    intro hq
    rw [show t.length + (q + 1) = (t.length + q) + 1 from by omega, trim, if_pos]
    · exact ih (by omega)
    · rw [List.getD_eq_getElem?_getD, List.getElem?_append_right (by omega), List.getElem?_replicate, if_pos (by omega)]
      rfl
theorem rvk_cons (k n : Nat) : rvk (k + 1) n = dig (n / 16 ^ k) :: rvk k n := by
  induction k generalizing n with
  | zero => rw [Nat.pow_zero, Nat.div_one]; rfl
  | succ k ih =>
    rw [rvk, ih (n / 16), Nat.div_div_eq_div_mul, Nat.mul_comm, ← Nat.pow_succ]
    rfl

/-! ### reading -/
def parseRv (l : List UInt8) : Option Nat := if l.length = 14 ∧ l.all isHex = true then some (num l) else none
def parseTh (l : List UInt8) : Option Nat :=
  if l = [48] then some 0
  else if l.length = 0 ∨ 14 < l.length ∨ l.getLast? = some 48 ∨ l.all isHex = false then none
  else some (num l * 16 ^ (14 - l.length))
theorem parseRv_rv (n : Nat) (h : n < 72057594037927936) : parseRv (rv n) = some n := by
  unfold parseRv; rw [if_pos ⟨rv_length n, rv_hex n⟩, num_rv n h]
theorem rv_parseRv (l : List UInt8) (n : Nat) (h : parseRv l = some n) : n < 72057594037927936 ∧ rv n = l := by
  unfold parseRv at h
  by_cases c : l.length = 14 ∧ l.all isHex = true
  · rw [if_pos c] at h
    obtain rfl := Option.some.inj h
    have := num_lt l c.2
    rw [c.1] at this
    exact ⟨this, rv_num l c.2 c.1⟩
  · rw [if_neg c] at h; cases h
theorem bare_last {l : List UInt8} (h : Bare l) : ¬ l.getLast? = some 48 := by
  intro e
  obtain ⟨t, rfl⟩ := List.getLast?_eq_some_iff.1 e
  exact h t rfl
theorem last_bare {l : List UInt8} (h : ¬ l.getLast? = some 48) : Bare l := fun t e => h (by rw [e]; simp)
theorem th_length (n : Nat) : 1 ≤ (th n).length ∧ (th n).length ≤ 14 := by
  have h1 := cut_pos ⟨(rv n).toArray⟩ 14 (by decide)
  have h2 := cut_le ⟨(rv n).toArray⟩ 14
  unfold th
  rw [List.length_take, rv_length]
  omega
theorem parseTh_th (n : Nat) (h : n < 72057594037927936) : parseTh (th n) = some n := by
  rcases th_char n h with ⟨e, t⟩ | ⟨hp, p, r, b, ne⟩
  · rw [t, e]; rfl
  · have hl := th_length n
    unfold parseTh
    rw [if_neg (fun e => b [] (by rw [e]; rfl)), if_neg]
    · have hk : 14 - (th n).length = p := by
        have := congrArg List.length r
        rw [rv_length] at this; simp at this; omega
      rw [hk, ← num_zeros, ← r, num_rv n h]
    · rintro (c | c | c | c)
      · omega
      · omega
      · exact bare_last b c
      · rw [th_hex] at c; cases c
theorem th_parseTh (l : List UInt8) (n : Nat) (h : parseTh l = some n) : n < 72057594037927936 ∧ th n = l := by
  unfold parseTh at h
  by_cases h0 : l = [48]
  · rw [if_pos h0] at h
    obtain rfl := Option.some.inj h
    exact ⟨by decide, by rw [h0]; exact th_zero⟩
  · rw [if_neg h0] at h
    by_cases c : l.length = 0 ∨ 14 < l.length ∨ l.getLast? = some 48 ∨ l.all isHex = false
    · rw [if_pos c] at h; cases h
    · rw [if_neg c] at h
      obtain rfl := Option.some.inj h
      have c1 : l.length ≠ 0 := fun e => c (.inl e)
      have c2 : l.length ≤ 14 := by
        apply Nat.le_of_not_lt
        exact fun e => c (.inr (.inl e))
      have c3 : Bare l := last_bare fun e => c (.inr (.inr (.inl e)))
      have c4 : l.all isHex = true := by
        cases e : l.all isHex
        · exact absurd (.inr (.inr (.inr e))) c
        · rfl
      have hx : (l ++ List.replicate (14 - l.length) 48).all isHex = true := by
        rw [List.all_append, c4, Bool.true_and, List.all_eq_true]
        intro x hx
        rw [List.eq_of_mem_replicate hx]; rfl
      have hl : (l ++ List.replicate (14 - l.length) (48 : UInt8)).length = 14 := by simp; omega
      have hr := rv_num _ hx hl
      have hb := num_lt _ hx
      rw [hl] at hb
      rw [num_zeros] at hr hb
      exact ⟨hb, th_bare hr c3 (fun e => c1 (by rw [e]; rfl))⟩

end Go.Proofs.YtfocmnjkoominaaDoor.HexaMath
