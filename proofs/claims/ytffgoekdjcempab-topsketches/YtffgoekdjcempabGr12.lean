/- Texts joined: MixOne, Of, NextOne, BloomMath, TabMath. -/
import Derived.Test.YtffgoekdjcempabGr1
import Derived.Test.YtffgoekdjcempabMixMath
import Derived.Lib.Hide
/- The contract of mix.Mix. -/
namespace Go.Proofs.Ytffgoekdjcempab
open Go.ChangeShapes Go.WideShapes Go.ChangeAt Go.RowKit

set_option maxHeartbeats 400000 in
theorem mix_any (x : Nat) (h : x < MixMath.M) (w : World) :
    Calls Try.prog 61 #[.int .u64 x] w fun e w' => e = .returned (.int .u64 (MixMath.mixN x : Nat)) ∧ w = w' := by
  have hx : (x : Int) < 18446744073709551616 := by have : x < 18446744073709551616 := h; omega
  go_enter Try.func61, Try.ntmps61
  go_wp2
  go_ret
  exact ⟨ret_int (MixMath.mix_walk x h), rfl⟩

end Go.Proofs.Ytffgoekdjcempab

/- The contract of mix.Of: the hash of a text of at most 200 bytes, or the error of a longer one. -/
namespace Go.Proofs.Ytffgoekdjcempab
open Go.ChangeShapes Go.WideShapes Go.ChangeAt Go.RowKit

/-- the factor of the hash, kept behind a name -/
def HF : Nat := 1099511628211
def hashStep (h : Nat) (b : UInt8) : Nat := MixMath.mm HF (h ^^^ b.toNat)
def H0 : Nat := 14695981039346656037
def hashN (l : List UInt8) : Nat := l.foldl hashStep H0
theorem hashStep_lt (h : Nat) (b : UInt8) : hashStep h b < MixMath.M := MixMath.mm_lt _ _
theorem hashN_snoc (l : List UInt8) (b : UInt8) : hashN (l ++ [b]) = hashStep (hashN l) b := by
  unfold hashN
  rw [List.foldl_append, List.foldl_cons, List.foldl_nil]
theorem hashN_nil : hashN [] = H0 := rfl
theorem hashN_lt (l : List UInt8) : hashN l < MixMath.M := by
  rcases List.eq_nil_or_concat l with rfl | ⟨m, b, rfl⟩
  · rw [hashN_nil]; decide
  · rw [List.concat_eq_append, hashN_snoc]; exact hashStep_lt _ _
theorem take_snoc (s : ByteArray) (k : Nat) (h : k < s.size) : s.data.toList.take (k + 1) = s.data.toList.take k ++ [s[k]] := by
  rw [List.take_succ_eq_append_getElem (by simpa using h)]; rfl
theorem wrap_u64_byte (b : UInt8) : IntKind.u64.wrap (b.toNat : Int) = (b.toNat : Int) := by
  have := b.toNat_lt
  rw [IntKind.wrap_u64]; omega
theorem hash_walk (h : Nat) (b : UInt8) (hh : h < MixMath.M) : IntKind.u64.wrap (bits BinOp.xor IntKind.u64 (h : Int) (IntKind.u64.wrap (b.toNat : Int)) * 1099511628211) = ((hashStep h b : Nat) : Int) := by
  rw [wrap_u64_byte]
  have hb : b.toNat < 18446744073709551616 := by have := b.toNat_lt; omega
  have e := MixMath.mm_walk (h ^^^ b.toNat) HF
  rw [bits_xor_u64_nat _ _ hh hb]
  exact e

theorem mix_small (x : Nat) : (MixMath.mixN x : Int) < 18446744073709551616 := by
  have h : MixMath.mixN x < 18446744073709551616 := MixMath.mixN_lt _
  omega

/-- the hash of a text -/
def ofI (l : List UInt8) : Int := (MixMath.mixN (hashN l) : Int) / 256
theorem ofI_bd (l : List UInt8) : 0 ≤ ofI l ∧ ofI l < 72057594037927936 := by
  have h := mix_small (hashN l)
  unfold ofI
  omega

set_option maxHeartbeats 400000 in
theorem of_big (s : ByteArray) (w : World) (hs : 200 < s.size) :
    Calls Try.prog 30 #[.string s] w fun e w' => e = .returned (.tuple #[.int .i64 0, .int .i64 2]) ∧ w = w' := by
  go_enter Try.func30, Try.ntmps30
  go_wp2
  go_ret2
  exact ⟨rfl, rfl⟩

set_option maxHeartbeats 400000 in
theorem of_small (s : ByteArray) (w : World) (hs : s.size ≤ 200) :
    Calls Try.prog 30 #[.string s] w fun e w' => e = .returned (.tuple #[.int .i64 (ofI s.data.toList), .int .i64 0]) ∧ w = w' := by
  have hc : decide (200 < (s.size : Int)) = false := by simp; omega
  go_enter Try.func30, Try.ntmps30
  go_wp2
  go_loop [4, 5] (fun h i => ∃ k : Nat, k ≤ s.size ∧ i = .int .i64 k ∧ h = .int .u64 (hashN (s.data.toList.take k) : Nat)) (fun _ i => s.size - (intOf i).toNat)
  case atStart => exact ⟨0, Nat.zero_le _, rfl, rfl⟩
  case round =>
    obtain ⟨k, hk, rfl, rfl⟩ := hrel
    have hl := hashN_lt (s.data.toList.take k)
    by_cases hlt : k < s.size
    · have HS := Lib.hid (hashN_snoc (s.data.toList.take k) s[k])
      have HT := Lib.hid (take_snoc s k hlt)
      have HW := Lib.hid (hash_walk _ s[k] hl)
      go_wp2
      go_round
      case rel => exact ⟨k + 1, by omega, by go_num, by rw [HW.out, HT.out, HS.out]⟩
      case measure => simp [intOf]; omega
    · have hk' : s.data.toList.take k = s.data.toList := List.take_of_length_le (by simp; omega)
      rw [hk']
      clear hk'
      have hl' := hashN_lt s.data.toList
      have hm := mix_small (hashN s.data.toList)
      go_wp2_with fail
      refine (mix_any _ hl' _).mono ?_
      rintro e w' ⟨rfl, rfl⟩
      go_wp2
      go_ret2
      exact ⟨rfl, rfl⟩

/-- two integers, whatever they are; the world stands -/
def SomeTwo (w : World) (e : Ending) (w' : World) : Prop := ∃ a b : Int, e = .returned (.tuple #[.int .i64 a, .int .i64 b]) ∧ w = w'
theorem of_some (s : ByteArray) (w : World) : Calls Try.prog 30 #[.string s] w (SomeTwo w) := by
  by_cases h : s.size ≤ 200
  · exact (of_small s w h).mono fun _ _ ⟨he, hw⟩ => ⟨_, _, he, hw⟩
  · exact (of_big s w (by omega)).mono fun _ _ ⟨he, hw⟩ => ⟨_, _, he, hw⟩

end Go.Proofs.Ytffgoekdjcempab

/- The contract of mix.Next. -/
namespace Go.Proofs.Ytffgoekdjcempab
open Go.ChangeShapes Go.WideShapes Go.ChangeAt Go.RowKit

def stepN (x : Nat) : Nat := (x + 11400714819323198485) % MixMath.M
theorem stepN_lt (x : Nat) : stepN x < MixMath.M := Nat.mod_lt _ (by decide)
theorem step_walk (x : Nat) : IntKind.u64.wrap ((x : Int) + 11400714819323198485) = ((stepN x : Nat) : Int) := by
  rw [IntKind.wrap_u64, stepN, Int.natCast_emod, Int.natCast_add]; rfl

set_option maxHeartbeats 400000 in
theorem next_any (x : Nat) (h : x < MixMath.M) (w : World) :
    Calls Try.prog 77 #[.int .u64 x] w fun e w' => e = .returned (.tuple #[.int .u64 (stepN x : Nat), .int .u64 (MixMath.mixN (stepN x) : Nat)]) ∧ w = w' := by
  have hx : (x : Int) < 18446744073709551616 := by have : x < 18446744073709551616 := h; omega
  go_enter Try.func77, Try.ntmps77
  go_wp2_with fail
  rw [step_walk]
  refine (mix_any _ (stepN_lt _) _).mono ?_
  rintro e w' ⟨rfl, rfl⟩
  go_wp2
  go_ret2
  exact ⟨rfl, rfl⟩

theorem wf_u64 {a : Int} (h : (Lit.int .u64 a).wf = true) : ∃ x : Nat, a = (x : Int) ∧ x < MixMath.M := by
  have b := bounds_u64 h
  refine ⟨a.toNat, by omega, ?_⟩
  show a.toNat < 18446744073709551616
  omega
end Go.Proofs.Ytffgoekdjcempab

/- Filters of bits: the positions of a key, what is put and what is there, and joins. Mathematics alone. -/
namespace Go.Proofs.Ytffgoekdjcempab
open Go.ChangeShapes Go.WideShapes Go.ChangeAt Go.RowKit
namespace Bloom

def stateAt (x : Nat) : Nat → Nat
  | 0 => x
  | i + 1 => stepN (stateAt x i)
theorem stateAt_lt {x : Nat} (h : x < MixMath.M) : ∀ i, stateAt x i < MixMath.M
  | 0 => h
  | i + 1 => stepN_lt _
/-- position number i of the state x among s bits -/
def placeN (x s i : Nat) : Nat := MixMath.mixN (stateAt x (i + 1)) % s
theorem placeN_lt {x s i : Nat} (h : 1 ≤ s) : placeN x s i < s := Nat.mod_lt _ (by omega)
def keyN (k : Int) : Nat := (k % 18446744073709551616).toNat
theorem keyN_lt (k : Int) : keyN k < MixMath.M := by
  unfold keyN
  show (k % 18446744073709551616).toNat < 18446744073709551616
  have h1 := Int.emod_nonneg k (show (18446744073709551616 : Int) ≠ 0 by decide)
  have h2 := Int.emod_lt_of_pos k (show (0 : Int) < 18446744073709551616 by decide)
  omega
theorem key_walk (k : Int) : IntKind.u64.wrap k = ((keyN k : Nat) : Int) := by
  rw [IntKind.wrap_u64]
  unfold keyN
  have h1 := Int.emod_nonneg k (show (18446744073709551616 : Int) ≠ 0 by decide)
  exact (Int.toNat_of_nonneg h1).symm
/-- the positions of a key -/
def places (k : Int) (s n : Nat) : List Nat := (List.range n).map (fun i => placeN (keyN k) s i)
theorem places_len (k : Int) (s n : Nat) : (places k s n).length = n := by simp [places]
theorem places_get {k : Int} {s n i : Nat} (h : i < n) : (places k s n)[i]? = some (placeN (keyN k) s i) := by simp [places, h]
theorem places_lt {k : Int} {s n : Nat} (h : 1 ≤ s) : ∀ p ∈ places k s n, p < s := by
  intro p hp
  obtain ⟨i, _, rfl⟩ := List.mem_map.1 hp
  exact placeN_lt h
theorem place_walk {x s : Nat} (h1 : 1 ≤ s) (h2 : s ≤ 256) : Int.tmod ((MixMath.mixN x : Nat) : Int) (s : Int) = ((MixMath.mixN x % s : Nat) : Int) := by
  rw [Int.tmod_eq_emod_of_nonneg (by omega)]
  exact (Int.natCast_emod _ _).symm

/-- the first i of them, the others not yet: what the program's list holds -/
def placesTo (k : Int) (s n i : Nat) : List Int := (List.range n).map (fun j => if j < i then ((placeN (keyN k) s j : Nat) : Int) else 0)
def placesI (k : Int) (s n : Nat) : List Int := (places k s n).map (fun p : Nat => (p : Int))
theorem placesTo_zero (k : Int) (s n : Nat) : placesTo k s n 0 = List.replicate n 0 := by
  unfold placesTo
  apply List.ext_getElem?
  intro j
  by_cases h : j < n <;> simp [h, List.getElem?_replicate]
theorem placesTo_all (k : Int) (s n : Nat) : placesTo k s n n = placesI k s n := by
  unfold placesTo placesI places
  rw [List.map_map]
  apply List.map_congr_left
  intro j hj
  rw [if_pos (List.mem_range.1 hj)]
  rfl
theorem placesTo_len (k : Int) (s n i : Nat) : (placesTo k s n i).length = n := by simp [placesTo]
theorem placesI_len (k : Int) (s n : Nat) : (placesI k s n).length = n := by simp [placesI, places_len]
theorem placesTo_get {k : Int} {s n i : Nat} (h : i < n) : (placesTo k s n i)[i]? = some 0 := by simp [placesTo, h]
theorem placesTo_succ {k : Int} {s n i : Nat} (h : i < n) : (placesTo k s n i).set i ((placeN (keyN k) s i : Nat) : Int) = placesTo k s n (i + 1) := by
  apply List.ext_getElem?
  intro j
  rw [List.getElem?_set, placesTo_len]
  by_cases hij : i = j
  · subst hij
    rw [if_pos rfl, if_pos h]
    simp [placesTo, h]
  · rw [if_neg hij]
    by_cases hj : j < n
    · simp only [placesTo, List.getElem?_map, List.getElem?_range hj, Option.map_some, Option.some.injEq]
      by_cases h1 : j < i
      · rw [if_pos h1, if_pos (by omega)]
      · rw [if_neg h1, if_neg (by omega)]
    · rw [List.getElem?_eq_none (by rw [placesTo_len]; omega), List.getElem?_eq_none (by rw [placesTo_len]; omega)]

/-! ### bits -/
/-- the bits with those at some places set -/
def putB (B : List Bool) (ps : List Nat) : List Bool := ps.foldl (fun b p => b.set p true) B
theorem putB_len : ∀ (ps : List Nat) (B : List Bool), (putB B ps).length = B.length
  | [], _ => rfl
  | p :: ps, B => by unfold putB; rw [List.foldl_cons]; exact (putB_len ps (B.set p true)).trans (by simp)
theorem putB_snoc (B : List Bool) (ps : List Nat) (p : Nat) : putB B (ps ++ [p]) = (putB B ps).set p true := by unfold putB; rw [List.foldl_append]; rfl
theorem putB_append (B : List Bool) (ps qs : List Nat) : putB B (ps ++ qs) = putB (putB B ps) qs := by unfold putB; rw [List.foldl_append]
theorem putB_get : ∀ (ps : List Nat) (B : List Bool) (i : Nat), (putB B ps)[i]? = (B[i]?).map (fun b => b || decide (i ∈ ps))
  | [], B, i => by simp [putB]
  | p :: ps, B, i => by
    have h := putB_get ps (B.set p true) i
    unfold putB at h ⊢
    rw [List.foldl_cons, h, List.getElem?_set]
    by_cases hp : p = i
    · subst hp
      rw [if_pos rfl]
      by_cases hl : p < B.length
      · rw [if_pos hl, List.getElem?_eq_getElem hl]; simp
      · rw [if_neg hl, List.getElem?_eq_none (by omega)]; rfl
    · rw [if_neg hp]
      have : (i ∈ p :: ps) ↔ i ∈ ps := by simp [Ne.symm hp]
      simp only [this]
theorem putB_congr {B : List Bool} {ps qs : List Nat} (h : ∀ i, i ∈ ps ↔ i ∈ qs) : putB B ps = putB B qs := by
  apply List.ext_getElem?
  intro i
  rw [putB_get, putB_get]
  simp only [h i]
/-- are all places set? -/
def hasB (B : List Bool) (ps : List Nat) : Bool := ps.all (fun p => B[p]? == some true)
theorem hasB_true {B : List Bool} {ps : List Nat} : hasB B ps = true ↔ ∀ p ∈ ps, B[p]? = some true := by
  unfold hasB
  rw [List.all_eq_true]
  constructor
  · intro h p hp; simpa using h p hp
  · intro h p hp; simpa using h p hp
theorem hasB_put {B : List Bool} {ps qs : List Nat} (hl : ∀ p ∈ ps, p < B.length) (h : ∀ p ∈ ps, p ∈ qs) : hasB (putB B qs) ps = true := by
  rw [hasB_true]
  intro p hp
  rw [putB_get, List.getElem?_eq_getElem (hl p hp)]
  simp [h p hp]
theorem hasB_on {B C : List Bool} {ps : List Nat} (h : ∀ p : Nat, B[p]? = some true → C[p]? = some true) (hB : hasB B ps = true) : hasB C ps = true := by
  rw [hasB_true] at hB ⊢
  exact fun p hp => h p (hB p hp)
theorem put_on {B : List Bool} {qs : List Nat} (p : Nat) (h : B[p]? = some true) : (putB B qs)[p]? = some true := by
  rw [putB_get, h]; simp
/-- the bits of either -/
def orB (B C : List Bool) : List Bool := List.zipWith (fun a b => a || b) B C
theorem orB_len {B C : List Bool} (h : B.length = C.length) : (orB B C).length = B.length := by unfold orB; rw [List.length_zipWith]; omega
theorem orB_get {B C : List Bool} {i : Nat} {b c : Bool} (hb : B[i]? = some b) (hc : C[i]? = some c) : (orB B C)[i]? = some (b || c) := by
  unfold orB
  rw [List.getElem?_zipWith, hb, hc]
theorem orB_left {B C : List Bool} (hl : B.length = C.length) (p : Nat) (h : B[p]? = some true) : (orB B C)[p]? = some true := by
  have hp := (List.getElem?_eq_some_iff.1 h).1
  rw [orB_get h (List.getElem?_eq_getElem (by omega))]; simp
theorem orB_right {B C : List Bool} (hl : B.length = C.length) (p : Nat) (h : C[p]? = some true) : (orB B C)[p]? = some true := by
  have hp := (List.getElem?_eq_some_iff.1 h).1
  rw [orB_get (List.getElem?_eq_getElem (by omega)) h]; simp
theorem orB_put {s : Nat} {ps qs : List Nat} : orB (putB (List.replicate s false) ps) (putB (List.replicate s false) qs) = putB (List.replicate s false) (ps ++ qs) := by
  apply List.ext_getElem?
  intro i
  by_cases hi : i < s
  · have e : (List.replicate s false)[i]? = some false := by rw [List.getElem?_replicate, if_pos hi]
    rw [putB_get, e, Option.map_some, orB_get (by rw [putB_get, e]; rfl) (by rw [putB_get, e]; rfl)]
    simp
  · rw [List.getElem?_eq_none (by rw [orB_len (by rw [putB_len, putB_len]), putB_len]; simp; omega), List.getElem?_eq_none (by rw [putB_len]; simp; omega)]
/-- what the loop of a join has done up to place i -/
def orTo (B C : List Bool) (i : Nat) : List Bool := (orB B C).take i ++ B.drop i
theorem orTo_zero (B C : List Bool) : orTo B C 0 = B := by simp [orTo]
theorem orTo_all {B C : List Bool} (h : B.length = C.length) : orTo B C C.length = orB B C := by
  unfold orTo
  rw [List.take_of_length_le (by rw [orB_len h]; omega), List.drop_of_length_le (by omega), List.append_nil]
theorem orTo_len {B C : List Bool} (h : B.length = C.length) {i : Nat} (hi : i ≤ B.length) : (orTo B C i).length = B.length := by
  unfold orTo
  rw [List.length_append, List.length_take, orB_len h, List.length_drop]; omega
theorem orTo_get {B C : List Bool} (h : B.length = C.length) {i : Nat} {b : Bool} (hb : B[i]? = some b) : (orTo B C i)[i]? = some b := by
  have hi := (List.getElem?_eq_some_iff.1 hb).1
  unfold orTo
  rw [List.getElem?_append_right (by rw [List.length_take, orB_len h]; omega), List.length_take, orB_len h, List.getElem?_drop, show i + (i - min i B.length) = i from by omega, hb]
theorem orTo_succ {B C : List Bool} (h : B.length = C.length) {i : Nat} {b c : Bool} (hb : B[i]? = some b) (hc : C[i]? = some c) : (orTo B C i).set i (b || c) = orTo B C (i + 1) := by
  have hi := (List.getElem?_eq_some_iff.1 hb).1
  unfold orTo
  have e : ((orB B C).take i).length = i := by rw [List.length_take, orB_len h]; omega
  rw [List.set_append_right _ _ (by omega), e, Nat.sub_self, List.drop_eq_getElem_cons hi, List.set_cons_zero, List.take_add_one, orB_get hb hc]
  simp
end Bloom
end Go.Proofs.Ytffgoekdjcempab

/- Count-min sketches: the columns of a key, what is put, asked and joined. Mathematics alone. -/
namespace Go.Proofs.Ytffgoekdjcempab
open Go.ChangeShapes Go.WideShapes Go.ChangeAt Go.RowKit
open Bloom
namespace Tbl

theorem state_is (x : Nat) (hx : x < MixMath.M) : ∀ i : Nat, stateAt x i = (x + i * 11400714819323198485) % MixMath.M
  | 0 => by rw [Nat.zero_mul, Nat.add_zero, Nat.mod_eq_of_lt hx]; rfl
  | i + 1 => by
    rw [stateAt, stepN, state_is x hx i, Nat.mod_add_mod]
    congr 1
    rw [Nat.add_mul]
    omega
/-- the column of a key in row i -/
def colN (s : Nat) (x : Int) (i : Nat) : Nat := placeN (keyN x) s i
theorem colN_lt {s : Nat} {x : Int} {i : Nat} (h : 1 ≤ s) : colN s x i < s := placeN_lt h
/-- what is mixed for it -/
def argN (x : Int) (i : Nat) : Nat := stateAt (keyN x) (i + 1)
theorem argN_lt (x : Int) (i : Nat) : argN x i < MixMath.M := stateAt_lt (keyN_lt x) (i + 1)
theorem colN_def (s : Nat) (x : Int) (i : Nat) : colN s x i = MixMath.mixN (argN x i) % s := rfl
theorem arg_col {x : Int} {i : Int} {j : Nat} (hi : i = (j : Int) + 1) : IntKind.u64.wrap (IntKind.u64.wrap x + IntKind.u64.wrap (IntKind.u64.wrap i * 11400714819323198485)) = ((argN x j : Nat) : Int) := by
  have hk : ((keyN x : Nat) : Int) = x % 18446744073709551616 := by rw [← key_walk, IntKind.wrap_u64]
  unfold argN
  rw [state_is _ (keyN_lt x), Int.natCast_emod, Int.natCast_add, Int.natCast_mul, hk, IntKind.wrap_u64, IntKind.wrap_u64, IntKind.wrap_u64, IntKind.wrap_u64, hi, show ((MixMath.M : Nat) : Int) = 18446744073709551616 from rfl, show ((11400714819323198485 : Nat) : Int) = 11400714819323198485 from rfl, Int.natCast_add]
  simp only [Int.natCast_one]
  omega
theorem arg_place {x : Int} {i : Int} {j : Nat} (hi : i = (j : Int)) : IntKind.u64.wrap (IntKind.u64.wrap x + IntKind.u64.wrap (IntKind.u64.wrap (IntKind.u64.wrap i + 1) * 11400714819323198485)) = ((argN x j : Nat) : Int) := by
  have h : IntKind.u64.wrap (IntKind.u64.wrap i + 1) = IntKind.u64.wrap ((j : Int) + 1) := by
    rw [IntKind.wrap_u64, IntKind.wrap_u64, IntKind.wrap_u64, hi]
    omega
  rw [h]
  exact arg_col rfl
theorem col_walk {s : Nat} {x : Int} {j : Nat} (h1 : 1 ≤ s) (h2 : s ≤ 32) : IntKind.i64.wrap (Int.tmod ((MixMath.mixN (argN x j) : Nat) : Int) (IntKind.u64.wrap (s : Int))) = ((colN s x j : Nat) : Int) := by
  rw [show IntKind.u64.wrap (s : Int) = (s : Int) from by rw [IntKind.wrap_u64]; omega, place_walk h1 (by omega)]
  have := colN_lt (x := x) (i := j) h1
  rw [colN_def] at this ⊢
  rw [IntKind.wrap_i64]
  omega

/-! ### what may be a counter -/
def outB (n : Int) : Bool := decide (n < 0) || decide (1000000000000 < n)
theorem outB_no {n : Int} (h : outB n = false) : 0 ≤ n ∧ n ≤ 1000000000000 := by
  unfold outB at h
  rw [Bool.or_eq_false_iff, decide_eq_false_iff_not, decide_eq_false_iff_not] at h
  omega
theorem outB_in {n : Int} (h1 : 0 ≤ n) (h2 : n ≤ 1000000000000) : outB n = false := by
  unfold outB
  rw [Bool.or_eq_false_iff, decide_eq_false_iff_not, decide_eq_false_iff_not]
  omega
theorem outB_big {n : Int} (h : 1000000000000 < n) : outB n = true := by
  unfold outB
  rw [Bool.or_eq_true, decide_eq_true_iff, decide_eq_true_iff]
  omega
def rowE (W : Int) (r : List Int) : Int := if (r.length : Int) ≠ W then 7 else if r.any outB then 1 else 0
theorem rowE_len {W : Int} {r : List Int} (h : (r.length : Int) ≠ W) : rowE W r = 7 := if_pos h
theorem rowE_out {W : Int} {r : List Int} (h : (r.length : Int) = W) (h2 : r.any outB = true) : rowE W r = 1 := by
  unfold rowE; rw [if_neg (by omega), if_pos h2]
theorem rowE_ok {W : Int} {r : List Int} (h : (r.length : Int) = W) (h2 : r.any outB = false) : rowE W r = 0 := by
  unfold rowE; rw [if_neg (by omega), h2]; rfl
theorem rowE_zero {W : Int} {r : List Int} (h : rowE W r = 0) : (r.length : Int) = W ∧ r.any outB = false := by
  unfold rowE at h
  split at h
  · cases h
  · split at h
    · cases h
    · rename_i h1 h2
      exact ⟨by omega, by simpa using h2⟩
def rowsE (W : Int) : List (List Int) → Int
  | [] => 0
  | r :: R => if rowE W r ≠ 0 then rowE W r else rowsE W R
theorem rowsE_here {W : Int} : ∀ {R : List (List Int)} {k : Nat} {r : List Int}, R[k]? = some r → rowE W r ≠ 0 → (∀ j, j < k → ∀ q, R[j]? = some q → rowE W q = 0) → rowsE W R = rowE W r
  | [], k, r, h, _, _ => by simp at h
  | q :: R, 0, r, h, hr, _ => by
    simp at h
    subst h
    unfold rowsE
    rw [if_pos hr]
  | q :: R, k + 1, r, h, hr, hj => by
    unfold rowsE
    rw [if_neg (by rw [hj 0 (by omega) q rfl]; simp)]
    exact rowsE_here (k := k) (by simpa using h) hr (fun j hjk y hy => hj (j + 1) (by omega) y (by simpa using hy))
theorem rowsE_none {W : Int} : ∀ {R : List (List Int)}, (∀ (j : Nat) (q : List Int), R[j]? = some q → rowE W q = 0) → rowsE W R = 0
  | [], _ => rfl
  | q :: R, h => by
    unfold rowsE
    rw [if_neg (by rw [h 0 q rfl]; simp)]
    exact rowsE_none (fun j y hy => h (j + 1) y (by simpa using hy))
theorem rowsE_zero {W : Int} : ∀ {R : List (List Int)}, rowsE W R = 0 → ∀ r ∈ R, rowE W r = 0
  | [], _, r, hr => by cases hr
  | q :: R, h, r, hr => by
    unfold rowsE at h
    by_cases hq : rowE W q ≠ 0
    · rw [if_pos hq] at h; exact absurd h hq
    · rw [if_neg hq] at h
      rcases List.mem_cons.1 hr with rfl | hr
      · omega
      · exact rowsE_zero h r hr
/-- the error of Check: of a table as wide as W whose rows are R -/
def tabE (W : Int) (R : List (List Int)) : Int := if W < 1 ∨ 32 < W ∨ R.length < 1 ∨ 4 < R.length then 1 else rowsE W R
theorem tabE_arg {W : Int} {R : List (List Int)} (h : W < 1 ∨ 32 < W ∨ R.length < 1 ∨ 4 < R.length) : tabE W R = 1 := if_pos h
theorem tabE_rows {W : Int} {R : List (List Int)} (h1 : 1 ≤ W) (h2 : W ≤ 32) (h3 : 1 ≤ R.length) (h4 : R.length ≤ 4) : tabE W R = rowsE W R := if_neg (by omega)
/-- a table that may be: s wide -/
structure GoodT (s : Nat) (R : List (List Int)) : Prop where
  s1 : 1 ≤ s
  s2 : s ≤ 32
  n1 : 1 ≤ R.length
  n2 : R.length ≤ 4
  len : ∀ r ∈ R, r.length = s
  cnt : ∀ r ∈ R, ∀ x ∈ r, 0 ≤ x ∧ x ≤ 1000000000000
theorem tabE_zero {W : Int} {R : List (List Int)} (h : tabE W R = 0) : ∃ s : Nat, W = s ∧ GoodT s R := by
  unfold tabE at h
  split at h
  · cases h
  · rename_i h0
    refine ⟨W.toNat, by omega, by omega, by omega, by omega, by omega, fun r hr => ?_, fun r hr x hx => ?_⟩
    · have := (rowE_zero (rowsE_zero h r hr)).1
      omega
    · have := (rowE_zero (rowsE_zero h r hr)).2
      rw [List.any_eq_false] at this
      exact outB_no (by simpa using this x hx)
theorem tabE_ok {s : Nat} {R : List (List Int)} (h : GoodT s R) : tabE s R = 0 := by
  rw [tabE_rows (by have := h.s1; omega) (by have := h.s2; omega) h.n1 h.n2]
  refine rowsE_none (fun j q hq => ?_)
  have hm := List.mem_of_getElem? hq
  refine rowE_ok (by rw [h.len q hm]) ?_
  rw [List.any_eq_false]
  intro x hx
  have := h.cnt q hm x hx
  rw [outB_in this.1 this.2]
  simp

/-! ### putting -/
def putR (s : Nat) (x n : Int) (R : List (List Int)) : List (List Int) := R.mapIdx (fun i r => r.modify (colN s x i) (· + n))
theorem putR_len (s : Nat) (x n : Int) (R : List (List Int)) : (putR s x n R).length = R.length := by simp [putR]
theorem putR_get {s : Nat} {x n : Int} {R : List (List Int)} {i : Nat} {r : List Int} (h : R[i]? = some r) : (putR s x n R)[i]? = some (r.modify (colN s x i) (· + n)) := by
  unfold putR
  rw [List.getElem?_mapIdx, h]; rfl
theorem modify_is {r : List Int} {p : Nat} {y n : Int} (h : r[p]? = some y) : r.modify p (· + n) = r.set p (y + n) := by
  apply List.ext_getElem?
  intro j
  rw [List.getElem?_modify, List.getElem?_set]
  by_cases hj : p = j
  · subst hj
    rw [if_pos rfl, if_pos (List.getElem?_eq_some_iff.1 h).1, h]
    simp
  · rw [if_neg hj]
    simp [hj]
/-- is one of the counters none? -/
def tooB (R : List (List Int)) : Bool := R.any (fun r => r.any outB)
def tooE (R : List (List Int)) : Int := if tooB R then 2 else 0
theorem tooE_yes {R : List (List Int)} {i : Nat} {r : List Int} {x : Int} (h : R[i]? = some r) (hx : x ∈ r) (ho : outB x = true) : tooE R = 2 := by
  unfold tooE tooB
  rw [if_pos]
  rw [List.any_eq_true]
  exact ⟨r, List.mem_of_getElem? h, List.any_eq_true.2 ⟨x, hx, ho⟩⟩
theorem tooE_no {R : List (List Int)} (h : ∀ r ∈ R, ∀ x ∈ r, outB x = false) : tooE R = 0 := by
  unfold tooE tooB
  rw [if_neg]
  rw [Bool.not_eq_true, List.any_eq_false]
  intro r hr hc
  obtain ⟨x, hx, ho⟩ := List.any_eq_true.1 hc
  rw [h r hr x hx] at ho
  cases ho
theorem tooE_zero {R : List (List Int)} (h : tooE R = 0) : ∀ r ∈ R, ∀ x ∈ r, outB x = false := by
  intro r hr x hx
  unfold tooE tooB at h
  split at h
  · cases h
  · rename_i h0
    rw [Bool.not_eq_true, List.any_eq_false] at h0
    have := h0 r hr
    rw [Bool.not_eq_true, List.any_eq_false] at this
    simpa using this x hx
theorem tooE_cases (R : List (List Int)) : tooE R = 2 ∨ tooE R = 0 := by
  unfold tooE
  split
  · exact Or.inl rfl
  · exact Or.inr rfl
/-- of rows put to, what stands elsewhere than in the key's column is as it was -/
theorem mem_modify {r : List Int} {p : Nat} {n z : Int} (h : z ∈ r.modify p (· + n)) : z ∈ r ∨ ∃ y, r[p]? = some y ∧ z = y + n := by
  obtain ⟨j, hj⟩ := List.getElem?_of_mem h
  rw [List.getElem?_modify] at hj
  cases hr : r[j]? with
  | none => rw [hr] at hj; simp at hj
  | some y =>
    rw [hr] at hj
    by_cases hp : p = j
    · subst hp
      simp at hj
      exact Or.inr ⟨y, hr, hj.symm⟩
    · simp [hp] at hj
      subst hj
      exact Or.inl (List.mem_of_getElem? hr)
/-- the counter of a key in row i -/
def atR (s : Nat) (x : Int) (i : Nat) (r : List Int) : Int := r.getD (colN s x i) 0
theorem atR_is {s : Nat} {x : Int} {i : Nat} {r : List Int} {y : Int} (h : r[colN s x i]? = some y) : atR s x i r = y := by
  unfold atR; rw [List.getD_eq_getElem?_getD, h]; rfl
theorem at_some {s : Nat} {x : Int} {i : Nat} {r : List Int} (h1 : 1 ≤ s) (h : r.length = s) : ∃ y, r[colN s x i]? = some y := ⟨_, List.getElem?_eq_getElem (by rw [h]; exact colN_lt h1)⟩
theorem put_too {s : Nat} {x n : Int} {R : List (List Int)} (hn : 0 ≤ n) (hg : GoodT s R) : tooE (putR s x n R) = 0 ↔ ∀ i r, R[i]? = some r → ∀ y, r[colN s x i]? = some y → y + n ≤ 1000000000000 := by
  constructor
  · intro h i r hr y hy
    have h1 := tooE_zero h _ (List.mem_of_getElem? (putR_get (s := s) (x := x) (n := n) hr)) (y + n) (by
      rw [modify_is hy]
      refine List.mem_of_getElem? (i := colN s x i) ?_
      rw [List.getElem?_set, if_pos rfl, if_pos (List.getElem?_eq_some_iff.1 hy).1])
    exact (outB_no h1).2
  · intro h
    refine tooE_no (fun q hq z hz => ?_)
    obtain ⟨i, hi⟩ := List.getElem?_of_mem hq
    have hil := (List.getElem?_eq_some_iff.1 hi).1
    rw [putR_len] at hil
    have hri : R[i]? = some (R[i]'hil) := List.getElem?_eq_getElem hil
    rw [putR_get hri, Option.some.injEq] at hi
    subst hi
    have hm := List.mem_of_getElem? hri
    rcases mem_modify hz with hz | ⟨y, hy, rfl⟩
    · have := hg.cnt _ hm z hz
      exact outB_in this.1 this.2
    · have h2 := h i _ hri y hy
      have h3 := hg.cnt _ hm y (List.mem_of_getElem? hy)
      exact outB_in (by omega) h2
theorem put_good {s : Nat} {x n : Int} {R : List (List Int)} (hg : GoodT s R) (h : tooE (putR s x n R) = 0) : GoodT s (putR s x n R) := by
  refine ⟨hg.s1, hg.s2, by rw [putR_len]; exact hg.n1, by rw [putR_len]; exact hg.n2, fun q hq => ?_, fun q hq z hz => outB_no (tooE_zero h q hq z hz)⟩
  obtain ⟨i, hi⟩ := List.getElem?_of_mem hq
  have hil := (List.getElem?_eq_some_iff.1 hi).1
  rw [putR_len] at hil
  have hri : R[i]? = some (R[i]'hil) := List.getElem?_eq_getElem hil
  rw [putR_get hri, Option.some.injEq] at hi
  subst hi
  rw [List.length_modify]
  exact hg.len _ (List.mem_of_getElem? hri)
/-- the first i rows put to, the others not yet -/
def putTo (s : Nat) (x n : Int) (R : List (List Int)) (i : Nat) : List (List Int) := (putR s x n R).take i ++ R.drop i
theorem putTo_zero (s : Nat) (x n : Int) (R : List (List Int)) : putTo s x n R 0 = R := by simp [putTo]
theorem putTo_all (s : Nat) (x n : Int) (R : List (List Int)) : putTo s x n R R.length = putR s x n R := by
  unfold putTo
  rw [List.take_of_length_le (by rw [putR_len]; exact Nat.le_refl _), List.drop_of_length_le (Nat.le_refl _), List.append_nil]
theorem putTo_split {s : Nat} {x n : Int} {R : List (List Int)} {i : Nat} {r : List Int} (h : R[i]? = some r) : putTo s x n R i = (putR s x n R).take i ++ r :: R.drop (i + 1) := by
  have hi := (List.getElem?_eq_some_iff.1 h).1
  unfold putTo
  rw [List.drop_eq_getElem_cons hi]
  rw [(List.getElem?_eq_some_iff.1 h).2]
theorem putTo_succ {s : Nat} {x n : Int} {R : List (List Int)} {i : Nat} {r : List Int} (h : R[i]? = some r) : putTo s x n R (i + 1) = (putR s x n R).take i ++ (r.modify (colN s x i) (· + n)) :: R.drop (i + 1) := by
  unfold putTo
  rw [List.take_add_one, putR_get h, Option.toList_some, List.append_assoc]
  rfl
/-- the error of Put -/
def putE (W : Int) (R : List (List Int)) (x n : Int) : Int := if tabE W R ≠ 0 then tabE W R else if outB n then 1 else tooE (putR W.toNat x n R)
/-- what Put answers: how wide, and which rows -/
def putW (W : Int) (R : List (List Int)) (x n : Int) : Int := if putE W R x n = 0 then W else 0
def putRows (W : Int) (R : List (List Int)) (x n : Int) : List (List Int) := if putE W R x n = 0 then putR W.toNat x n R else []

/-! ### asking -/
def askR (s : Nat) (x : Int) (R : List (List Int)) : Int := (R.mapIdx (fun i r => atR s x i r)).foldl min 1000000000000
theorem ask_take {s : Nat} {x : Int} {R : List (List Int)} {i : Nat} {r : List Int} (h : R[i]? = some r) : ((R.mapIdx (fun i r => atR s x i r)).take (i + 1)).foldl min 1000000000000 = min (((R.mapIdx (fun i r => atR s x i r)).take i).foldl min 1000000000000) (atR s x i r) := by
  rw [List.take_add_one, List.getElem?_mapIdx, h, Option.map_some, Option.toList_some, List.foldl_append]
  rfl
/-! ### joining -/
def addL (l m : List Int) : List Int := List.zipWith (fun a b => a + b) l m
def joinR (R Q : List (List Int)) : List (List Int) := List.zipWith addL R Q
theorem addL_get {l m : List Int} {i : Nat} {a b : Int} (h1 : l[i]? = some a) (h2 : m[i]? = some b) : (addL l m)[i]? = some (a + b) := by unfold addL; rw [List.getElem?_zipWith, h1, h2]
theorem addL_len {l m : List Int} (h : l.length = m.length) : (addL l m).length = l.length := by unfold addL; rw [List.length_zipWith]; omega
theorem joinR_get {R Q : List (List Int)} {i : Nat} {r q : List Int} (h1 : R[i]? = some r) (h2 : Q[i]? = some q) : (joinR R Q)[i]? = some (addL r q) := by unfold joinR; rw [List.getElem?_zipWith, h1, h2]
theorem joinR_len {R Q : List (List Int)} (h : R.length = Q.length) : (joinR R Q).length = R.length := by unfold joinR; rw [List.length_zipWith]; omega
/-- the first j counters of a row joined -/
def addTo (l m : List Int) (j : Nat) : List Int := (addL l m).take j ++ l.drop j
theorem addTo_zero (l m : List Int) : addTo l m 0 = l := by simp [addTo]
theorem addTo_all {l m : List Int} (h : l.length = m.length) : addTo l m m.length = addL l m := by
  unfold addTo
  rw [List.take_of_length_le (by rw [addL_len h]; omega), List.drop_of_length_le (by omega), List.append_nil]
theorem addTo_get {l m : List Int} (h : l.length = m.length) {j : Nat} {a : Int} (ha : l[j]? = some a) : (addTo l m j)[j]? = some a := by
  have hj := (List.getElem?_eq_some_iff.1 ha).1
  unfold addTo
  rw [List.getElem?_append_right (by rw [List.length_take, addL_len h]; omega), List.length_take, addL_len h, List.getElem?_drop, show j + (j - min j l.length) = j from by omega, ha]
theorem addTo_succ {l m : List Int} (h : l.length = m.length) {j : Nat} {a b : Int} (ha : l[j]? = some a) (hb : m[j]? = some b) : (addTo l m j).set j (a + b) = addTo l m (j + 1) := by
  have hj := (List.getElem?_eq_some_iff.1 ha).1
  unfold addTo
  have e : ((addL l m).take j).length = j := by rw [List.length_take, addL_len h]; omega
  rw [List.set_append_right _ _ (by omega), e, Nat.sub_self, List.drop_eq_getElem_cons hj, List.set_cons_zero, List.take_add_one, addL_get ha hb]
  simp
def joinTo (R Q : List (List Int)) (i : Nat) : List (List Int) := (joinR R Q).take i ++ R.drop i
theorem joinTo_zero (R Q : List (List Int)) : joinTo R Q 0 = R := by simp [joinTo]
theorem joinTo_all {R Q : List (List Int)} (h : R.length = Q.length) : joinTo R Q R.length = joinR R Q := by
  unfold joinTo
  rw [List.take_of_length_le (by rw [joinR_len h]; exact Nat.le_refl _), List.drop_of_length_le (Nat.le_refl _), List.append_nil]
theorem joinTo_split {R Q : List (List Int)} {i : Nat} {r : List Int} (h : R[i]? = some r) : joinTo R Q i = (joinR R Q).take i ++ r :: R.drop (i + 1) := by
  have hi := (List.getElem?_eq_some_iff.1 h).1
  unfold joinTo
  rw [List.drop_eq_getElem_cons hi, (List.getElem?_eq_some_iff.1 h).2]
theorem joinTo_succ {R Q : List (List Int)} {i : Nat} {r q : List Int} (h : R[i]? = some r) (h2 : Q[i]? = some q) : joinTo R Q (i + 1) = (joinR R Q).take i ++ addL r q :: R.drop (i + 1) := by
  unfold joinTo
  rw [List.take_add_one, joinR_get h h2, Option.toList_some, List.append_assoc]
  rfl
theorem join_good {s : Nat} {R Q : List (List Int)} (hR : GoodT s R) (hQ : GoodT s Q) (hl : R.length = Q.length) (h : tooE (joinR R Q) = 0) : GoodT s (joinR R Q) := by
  refine ⟨hR.s1, hR.s2, by rw [joinR_len hl]; exact hR.n1, by rw [joinR_len hl]; exact hR.n2, fun q hq => ?_, fun q hq z hz => outB_no (tooE_zero h q hq z hz)⟩
  obtain ⟨i, hi⟩ := List.getElem?_of_mem hq
  have hil := (List.getElem?_eq_some_iff.1 hi).1
  rw [joinR_len hl] at hil
  have h1 : R[i]? = some (R[i]'hil) := List.getElem?_eq_getElem hil
  have h2 : Q[i]? = some (Q[i]'(by omega)) := List.getElem?_eq_getElem (by omega)
  rw [joinR_get h1 h2, Option.some.injEq] at hi
  subst hi
  have l1 := hR.len _ (List.mem_of_getElem? h1)
  have l2 := hQ.len _ (List.mem_of_getElem? h2)
  rw [addL_len (by omega)]
  exact l1
def joinE (W : Int) (R : List (List Int)) (V : Int) (Q : List (List Int)) : Int := if tabE W R ≠ 0 then tabE W R else if tabE V Q ≠ 0 then tabE V Q else if W ≠ V ∨ R.length ≠ Q.length then 7 else tooE (joinR R Q)
end Tbl
end Go.Proofs.Ytffgoekdjcempab
