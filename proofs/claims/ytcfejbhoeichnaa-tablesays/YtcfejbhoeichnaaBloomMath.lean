/- Filters of bits: the positions of a key, what is put and what is there, and joins. Mathematics alone. -/
import Derived.Test.YtcfejbhoeichnaaNextOne
namespace Go.Proofs.Ytcfejbhoeichnaa
open Go.ChangeShapes Go.WideShapes Go.ChangeAt Go.RowKit
namespace Bloom

def stateAt (x : Nat) : Nat → Nat
  | 0 => x
  | i + 1 => stepN (stateAt x i)
theorem stateAt_lt {x : Nat} (h : x < MixMath.M) : ∀ i, stateAt x i < MixMath.M
  | 0 => h
  | i + 1 => stepN_lt _
/-- position number i of the state x among s bits -/
def placeN (x s i : Nat) : Nat := MixMath.mixN (stateAt x (i + 1)) % s
theorem placeN_lt {x s i : Nat} (h : 1 ≤ s) : placeN x s i < s := Nat.mod_lt _ (by omega)
def keyN (k : Int) : Nat := (k % 18446744073709551616).toNat
theorem keyN_lt (k : Int) : keyN k < MixMath.M := by
  unfold keyN
  show (k % 18446744073709551616).toNat < 18446744073709551616
  have h1 := Int.emod_nonneg k (show (18446744073709551616 : Int) ≠ 0 by decide)
  have h2 := Int.emod_lt_of_pos k (show (0 : Int) < 18446744073709551616 by decide)
  omega
theorem key_walk (k : Int) : IntKind.u64.wrap k = ((keyN k : Nat) : Int) := by
  rw [IntKind.wrap_u64]
  unfold keyN
  have h1 := Int.emod_nonneg k (show (18446744073709551616 : Int) ≠ 0 by decide)
  exact (Int.toNat_of_nonneg h1).symm
/-- the positions of a key -/
def places (k : Int) (s n : Nat) : List Nat := (List.range n).map (fun i => placeN (keyN k) s i)
theorem places_len (k : Int) (s n : Nat) : (places k s n).length = n := by simp [places]
theorem places_get {k : Int} {s n i : Nat} (h : i < n) : (places k s n)[i]? = some (placeN (keyN k) s i) := by simp [places, h]
theorem places_lt {k : Int} {s n : Nat} (h : 1 ≤ s) : ∀ p ∈ places k s n, p < s := by
  intro p hp
  obtain ⟨i, _, rfl⟩ := List.mem_map.1 hp
  exact placeN_lt h
theorem place_walk {x s : Nat} (h1 : 1 ≤ s) (h2 : s ≤ 256) : Int.tmod ((MixMath.mixN x : Nat) : Int) (s : Int) = ((MixMath.mixN x % s : Nat) : Int) := by
  rw [Int.tmod_eq_emod_of_nonneg (by omega)]
  exact (Int.natCast_emod _ _).symm

/-- the first i of them, the others not yet: what the program's list holds -/
def placesTo (k : Int) (s n i : Nat) : List Int := (List.range n).map (fun j => if j < i then ((placeN (keyN k) s j : Nat) : Int) else 0)
def placesI (k : Int) (s n : Nat) : List Int := (places k s n).map (fun p : Nat => (p : Int))
theorem placesTo_zero (k : Int) (s n : Nat) : placesTo k s n 0 = List.replicate n 0 := by
  unfold placesTo
  apply List.ext_getElem?
  intro j
  by_cases h : j < n <;> simp [h, List.getElem?_replicate]
theorem placesTo_all (k : Int) (s n : Nat) : placesTo k s n n = placesI k s n := by
  unfold placesTo placesI places
  rw [List.map_map]
  apply List.map_congr_left
  intro j hj
  rw [if_pos (List.mem_range.1 hj)]
  rfl
theorem placesTo_len (k : Int) (s n i : Nat) : (placesTo k s n i).length = n := by simp [placesTo]
theorem placesI_len (k : Int) (s n : Nat) : (placesI k s n).length = n := by simp [placesI, places_len]
theorem placesTo_get {k : Int} {s n i : Nat} (h : i < n) : (placesTo k s n i)[i]? = some 0 := by simp [placesTo, h]
theorem placesTo_succ {k : Int} {s n i : Nat} (h : i < n) : (placesTo k s n i).set i ((placeN (keyN k) s i : Nat) : Int) = placesTo k s n (i + 1) := by
  apply List.ext_getElem?
  intro j
  rw [List.getElem?_set, placesTo_len]
  by_cases hij : i = j
  · subst hij
    rw [if_pos rfl, if_pos h]
    simp [placesTo, h]
  · rw [if_neg hij]
    by_cases hj : j < n
    · simp only [placesTo, List.getElem?_map, List.getElem?_range hj, Option.map_some, Option.some.injEq]
      by_cases h1 : j < i
      · rw [if_pos h1, if_pos (by omega)]
      · rw [if_neg h1, if_neg (by omega)]
    · rw [List.getElem?_eq_none (by rw [placesTo_len]; omega), List.getElem?_eq_none (by rw [placesTo_len]; omega)]

/-! ### bits -/
/-- the bits with those at some places set -/
def putB (B : List Bool) (ps : List Nat) : List Bool := ps.foldl (fun b p => b.set p true) B
theorem putB_len : ∀ (ps : List Nat) (B : List Bool), (putB B ps).length = B.length
  | [], _ => rfl
  | p :: ps, B => by unfold putB; rw [List.foldl_cons]; exact (putB_len ps (B.set p true)).trans (by simp)
theorem putB_snoc (B : List Bool) (ps : List Nat) (p : Nat) : putB B (ps ++ [p]) = (putB B ps).set p true := by unfold putB; rw [List.foldl_append]; rfl
theorem putB_append (B : List Bool) (ps qs : List Nat) : putB B (ps ++ qs) = putB (putB B ps) qs := by unfold putB; rw [List.foldl_append]
theorem putB_get : ∀ (ps : List Nat) (B : List Bool) (i : Nat), (putB B ps)[i]? = (B[i]?).map (fun b => b || decide (i ∈ ps))
  | [], B, i => by simp [putB]
  | p :: ps, B, i => by
    have h := putB_get ps (B.set p true) i
    unfold putB at h ⊢
    rw [List.foldl_cons, h, List.getElem?_set]
    by_cases hp : p = i
    · subst hp
      rw [if_pos rfl]
      by_cases hl : p < B.length
      · rw [if_pos hl, List.getElem?_eq_getElem hl]; simp
      · rw [if_neg hl, List.getElem?_eq_none (by omega)]; rfl
    · rw [if_neg hp]
      have : (i ∈ p :: ps) ↔ i ∈ ps := by simp [Ne.symm hp]
      simp only [this]
theorem putB_congr {B : List Bool} {ps qs : List Nat} (h : ∀ i, i ∈ ps ↔ i ∈ qs) : putB B ps = putB B qs := by
  apply List.ext_getElem?
  intro i
  rw [putB_get, putB_get]
  simp only [h i]
/-- are all places set? -/
def hasB (B : List Bool) (ps : List Nat) : Bool := ps.all (fun p => B[p]? == some true)
theorem hasB_true {B : List Bool} {ps : List Nat} : hasB B ps = true ↔ ∀ p ∈ ps, B[p]? = some true := by
  unfold hasB
  rw [List.all_eq_true]
  constructor
  · intro h p hp; simpa using h p hp
  · intro h p hp; simpa using h p hp
theorem hasB_put {B : List Bool} {ps qs : List Nat} (hl : ∀ p ∈ ps, p < B.length) (h : ∀ p ∈ ps, p ∈ qs) : hasB (putB B qs) ps = true := by
  rw [hasB_true]
  intro p hp
  rw [putB_get, List.getElem?_eq_getElem (hl p hp)]
  simp [h p hp]
theorem hasB_on {B C : List Bool} {ps : List Nat} (h : ∀ p : Nat, B[p]? = some true → C[p]? = some true) (hB : hasB B ps = true) : hasB C ps = true := by
  rw [hasB_true] at hB ⊢
  exact fun p hp => h p (hB p hp)
theorem put_on {B : List Bool} {qs : List Nat} (p : Nat) (h : B[p]? = some true) : (putB B qs)[p]? = some true := by
  rw [putB_get, h]; simp
/-- the bits of either -/
def orB (B C : List Bool) : List Bool := List.zipWith (fun a b => a || b) B C
theorem orB_len {B C : List Bool} (h : B.length = C.length) : (orB B C).length = B.length := by unfold orB; rw [List.length_zipWith]; omega
theorem orB_get {B C : List Bool} {i : Nat} {b c : Bool} (hb : B[i]? = some b) (hc : C[i]? = some c) : (orB B C)[i]? = some (b || c) := by
  unfold orB
  rw [List.getElem?_zipWith, hb, hc]
theorem orB_left {B C : List Bool} (hl : B.length = C.length) (p : Nat) (h : B[p]? = some true) : (orB B C)[p]? = some true := by
  have hp := (List.getElem?_eq_some_iff.1 h).1
  rw [orB_get h (List.getElem?_eq_getElem (by omega))]; simp
theorem orB_right {B C : List Bool} (hl : B.length = C.length) (p : Nat) (h : C[p]? = some true) : (orB B C)[p]? = some true := by
  have hp := (List.getElem?_eq_some_iff.1 h).1
  rw [orB_get (List.getElem?_eq_getElem (by omega)) h]; simp
theorem orB_put {s : Nat} {ps qs : List Nat} : orB (putB (List.replicate s false) ps) (putB (List.replicate s false) qs) = putB (List.replicate s false) (ps ++ qs) := by
  apply List.ext_getElem?
  intro i
  by_cases hi : i < s
  · have e : (List.replicate s false)[i]? = some false := by rw [List.getElem?_replicate, if_pos hi]
    rw [putB_get, e, Option.map_some, orB_get (by rw [putB_get, e]; rfl) (by rw [putB_get, e]; rfl)]
    simp
  · rw [List.getElem?_eq_none (by rw [orB_len (by rw [putB_len, putB_len]), putB_len]; simp; omega), List.getElem?_eq_none (by rw [putB_len]; simp; omega)]
/-- what the loop of a join has done up to place i -/
def orTo (B C : List Bool) (i : Nat) : List Bool := (orB B C).take i ++ B.drop i
theorem orTo_zero (B C : List Bool) : orTo B C 0 = B := by simp [orTo]
theorem orTo_all {B C : List Bool} (h : B.length = C.length) : orTo B C C.length = orB B C := by
  unfold orTo
  rw [List.take_of_length_le (by rw [orB_len h]; omega), List.drop_of_length_le (by omega), List.append_nil]
theorem orTo_len {B C : List Bool} (h : B.length = C.length) {i : Nat} (hi : i ≤ B.length) : (orTo B C i).length = B.length := by
  unfold orTo
  rw [List.length_append, List.length_take, orB_len h, List.length_drop]; omega
theorem orTo_get {B C : List Bool} (h : B.length = C.length) {i : Nat} {b : Bool} (hb : B[i]? = some b) : (orTo B C i)[i]? = some b := by
  have hi := (List.getElem?_eq_some_iff.1 hb).1
  unfold orTo
  rw [List.getElem?_append_right (by rw [List.length_take, orB_len h]; omega), List.length_take, orB_len h, List.getElem?_drop, show i + (i - min i B.length) = i from by omega, hb]
theorem orTo_succ {B C : List Bool} (h : B.length = C.length) {i : Nat} {b c : Bool} (hb : B[i]? = some b) (hc : C[i]? = some c) : (orTo B C i).set i (b || c) = orTo B C (i + 1) := by
  have hi := (List.getElem?_eq_some_iff.1 hb).1
  unfold orTo
  have e : ((orB B C).take i).length = i := by rw [List.length_take, orB_len h]; omega
  rw [List.set_append_right _ _ (by omega), e, Nat.sub_self, List.drop_eq_getElem_cons hi, List.set_cons_zero, List.take_add_one, orB_get hb hc]
  simp
end Bloom
end Go.Proofs.Ytcfejbhoeichnaa
