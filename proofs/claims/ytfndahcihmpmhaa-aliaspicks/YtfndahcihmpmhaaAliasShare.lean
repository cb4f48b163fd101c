/- The contract of the program's alias.Shares. -/
import Derived.Test.YtfndahcihmpmhaaAliasPick
namespace Go.Proofs.Ytfndahcihmpmhaa
open Go.ChangeShapes Go.WideShapes Go.ChangeAt Go.RowKit

def addAt (s : List Int) (i : Nat) (x : Int) : List Int := s.set i (s.getD i 0 + x)
/-- the shares, when k columns have been dealt out -/
def sharesTo (A : Int) (O R : List Int) (n : Nat) : Nat → List Int
  | 0 => List.replicate n 0
  | k + 1 => addAt (addAt (sharesTo A O R n k) k (O.getD k 0)) (R.getD k 0).toNat (A - O.getD k 0)
theorem addAt_len (s : List Int) (i : Nat) (x : Int) : (addAt s i x).length = s.length := by simp [addAt]
theorem sharesTo_len (A : Int) (O R : List Int) (n : Nat) : ∀ k, (sharesTo A O R n k).length = n
  | 0 => by simp [sharesTo]
  | k + 1 => by rw [sharesTo, addAt_len, addAt_len]; exact sharesTo_len A O R n k
theorem addAt_bd {s : List Int} {i : Nat} {x M X : Int} (h : ∀ y ∈ s, 0 ≤ y ∧ y ≤ M) (hM : 0 ≤ M) (hx : 0 ≤ x ∧ x ≤ X) : ∀ y ∈ addAt s i x, 0 ≤ y ∧ y ≤ M + X := by
  intro y hy
  have hg : 0 ≤ s.getD i 0 ∧ s.getD i 0 ≤ M := by
    rw [List.getD_eq_getElem?_getD]
    cases e : s[i]? with
    | none => exact ⟨Int.le_refl _, hM⟩
    | some z => exact h z (List.mem_of_getElem? e)
  rcases List.mem_or_eq_of_mem_set hy with hy | rfl
  · have := h y hy; omega
  · omega
theorem addAt_get {s : List Int} {i : Nat} {y : Int} (x : Int) (h : s[i]? = some y) : addAt s i x = s.set i (y + x) := by
  unfold addAt
  rw [List.getD_eq_getElem?_getD, h]; rfl
theorem sharesTo_bd {A : Int} {O R : List Int} {n : Nat} (hA : A ≤ 40000000000000) (hO : ∀ (i : Nat) (o : Int), O[i]? = some o → 0 ≤ o ∧ o ≤ A) : ∀ k, k ≤ O.length → ∀ y ∈ sharesTo A O R n k, 0 ≤ y ∧ y ≤ (k : Int) * 80000000000000
  | 0, _ => by
    intro y hy
    have := List.eq_of_mem_replicate hy
    omega
  | k + 1, hk => by
    have ih := sharesTo_bd hA hO (R := R) (n := n) k (by omega)
    obtain ⟨o, ho⟩ : ∃ o, O[k]? = some o := ⟨_, List.getElem?_eq_getElem (by omega)⟩
    have hd : O.getD k 0 = o := by rw [List.getD_eq_getElem?_getD, ho]; rfl
    have hb := hO k o ho
    rw [sharesTo, hd]
    intro y hy
    have := addAt_bd (addAt_bd (i := k) ih (by omega) (x := o) (X := 40000000000000) (by omega)) (by omega) (x := A - o) (X := 40000000000000) (by omega) y hy
    omega

set_option maxRecDepth 100000 in
set_option maxHeartbeats 1000000 in
theorem shares_bad (A : Int) (a b : Option Addr) (la ca lb cb : Nat) (O R : List Int) (w : World) (h1 : Tab w a la ca 1 (O.map iC)) (h2 : Tab w b lb cb 1 (R.map iC)) (hE : aliasE A O R ≠ 0) :
    Calls Try.prog 23 #[aliasV A a la ca b lb cb] w fun e w' => e = .returned (.tuple #[.slice none 0 0, .int .i64 (aliasE A O R)]) ∧ Below w.heap.size w w' := by
  have hb : Below w.heap.size w (w.alloc (.cells #[.int .i64 A, .slice a la ca, .slice b lb cb] 33)) := (Below.refl _ _).alloc (Nat.le_refl _) _
  have HB := Lib.hid hb
  have HC := Lib.hid (aliasCheck_any A a b la ca lb cb O R _ (h1.below hb) (h2.below hb))
  have t : (aliasE A O R != 0) = true := by simpa using hE
  generalize aliasE A O R = E at *
  unfold aliasV at HC ⊢
  clear h1 h2 hb hE
  go_enter Try.func23, Try.ntmps23
  go_wp2_with fail
  refine HC.out.mono ?_
  rintro e w1 ⟨rfl, hb1⟩
  go_wp2
  go_ret2
  exact ⟨rfl, below_on HB.out hb1⟩

set_option maxRecDepth 100000 in
set_option maxHeartbeats 2000000 in
theorem shares_ok (A : Int) (a b : Option Addr) (la ca lb cb : Nat) (O R : List Int) (w : World) (h1 : Tab w a la ca 1 (O.map iC)) (h2 : Tab w b lb cb 1 (R.map iC)) (hE : aliasE A O R = 0) :
    Calls Try.prog 23 #[aliasV A a la ca b lb cb] w fun e w' => ∃ v, e = .returned (.tuple #[v, .int .i64 0]) ∧ Own w' w.heap.size 3 1 v ((sharesTo A O R O.length O.length).map iC) ∧ Below w.heap.size w w' := by
  obtain ⟨i0, hi, hz0, hz1, hz2⟩ := info_parts info_int
  have l1 := h1.hlen
  have l2 := h2.hlen
  rw [List.length_map] at l1 l2
  have hb : Below w.heap.size w (w.alloc (.cells #[.int .i64 A, .slice a la ca, .slice b lb cb] 33)) := (Below.refl _ _).alloc (Nat.le_refl _) _
  have HB := Lib.hid hb
  have HX : Hid ((w.alloc (.cells #[.int .i64 A, .slice a la ca, .slice b lb cb] 33)).heap[w.heap.size]? = some (.cells #[.int .i64 A, .slice a la ca, .slice b lb cb] 33 (0, 0))) := Lib.hid (MapKept.heap_alloc w _).1
  have HC := Lib.hid (aliasCheck_any A a b la ca lb cb O R _ (h1.below hb) (h2.below hb))
  obtain ⟨z1, z2, z3, z4, z5, z6⟩ := aliasE_zero hE
  have hlb : lb = la := by omega
  subst hlb
  have hla : lb ≤ 40 := by omega
  rw [hE] at HC
  unfold aliasV at HC ⊢
  have hO : ∀ (i : Nat) (o : Int), O[i]? = some o → 0 ≤ o ∧ o ≤ A := fun i o ho => by
    obtain ⟨r, hr⟩ : ∃ r, R[i]? = some r := ⟨_, List.getElem?_eq_getElem (by have := (List.getElem?_eq_some_iff.1 ho).1; omega)⟩
    exact (z6 i o r ho hr).1
  have HBD := Lib.hid (sharesTo_bd (R := R) (n := O.length) z5 hO)
  have HZ := Lib.hid z6
  have H1 := Lib.hid h1
  have H2 := Lib.hid h2
  have L1 := Lib.hid l1
  have L2 := Lib.hid l2
  have HI := Lib.hid (And.intro hi (And.intro hz0 (And.intro hz1 hz2)))
  clear h1 h2 hb hE z1 z2 z3 z6 hO hi hz0 hz1 hz2
  rw [l1] at HBD HZ ⊢
  clear l1 l2
  go_enter Try.func23, Try.ntmps23
  go_wp2_with fail
  refine HC.out.mono ?_
  rintro e w1 ⟨rfl, hb1⟩
  obtain ⟨⟨x0, x1, x2⟩, _, _, _⟩ := alias_cells (kept_blk hb1 HX.out)
  have HX1 := Lib.hid (kept_blk hb1 HX.out)
  have HB1 := Lib.hid (below_on HB.out hb1)
  have hlt1 : w.heap.size < w1.heap.size := (Array.getElem?_eq_some_iff.1 HX1.out).1
  clear HC hb1 HX HB
  go_wp2_with (first | (at_make; refine wpList_make_full _ rfl _ _ 22 rfl w1.heap.size 3 i0 (.int .i64 0) 1 Try.underlying22 HI.out.1 HI.out.2.1 HI.out.2.2.1 _ _ _ _ lb rfl rfl rfl rfl (by rw [HI.out.2.2.2]; omega) (by unfold maxLen; omega) (Nat.le_refl _) ?_; intro w2 hO2 hg2; have hb2 := (Below.refl w1.heap.size w1).grown hg2 (Nat.le_refl _) (fun j hj => by cases hj); obtain ⟨⟨y0, y1, y2⟩, _, _, _⟩ := alias_cells (kept_blk hb2 HX1.out)))
  have HS0 : Hid (Own w2 w1.heap.size 3 1 (.slice (some ⟨w1.heap.size, 0, none⟩) lb lb) ((sharesTo A O R lb 0).map iC)) := Lib.hid (Own.full hO2 (made_ints lb))
  have HX2 := Lib.hid (kept_blk hb2 HX1.out)
  have HB2 := Lib.hid (below_on HB1.out hb2)
  clear hO2 hg2 hb2 x0 x1 x2 y0 y1 y2 HX1 HB1 HI
  generalize hG : w1.heap.size = G at *
  clear hG
  go_loopg [20] lb (fun g i wr => ∃ k : Nat, k + g = lb ∧ i = .int .i64 k ∧ Hid (Own wr G 3 1 (.slice (some ⟨G, 0, none⟩) lb lb) ((sharesTo A O R lb k).map iC)) ∧ Hid (wr.heap[w.heap.size]? = some (.cells #[.int .i64 A, .slice a lb ca, .slice b lb cb] 33 (0, 0))) ∧ Below w.heap.size w wr)
  case atStart => exact ⟨0, by omega, rfl, HS0, HX2, HB2.out⟩
  case round =>
    clear HS0 HX2 HB2
    obtain ⟨k, hk0, rfl, HS, HX, hb⟩ := hrel
    have HJ := Lib.hid hk0
    have hk : k ≤ lb := by omega
    clear hk0
    by_cases hlt : k < lb
    · obtain ⟨o, ho⟩ : ∃ z, O[k]? = some z := ⟨_, List.getElem?_eq_getElem (by rw [L1.out]; exact hlt)⟩
      obtain ⟨r, hr⟩ : ∃ z, R[k]? = some z := ⟨_, List.getElem?_eq_getElem (by rw [L2.out]; exact hlt)⟩
      obtain ⟨⟨o1', o2'⟩, r1, r2⟩ := HZ.out k o r ho hr
      obtain ⟨j, rfl⟩ := Int.eq_ofNat_of_zero_le r1
      have hj : j < lb := by omega
      obtain ⟨x, hx⟩ : ∃ z, (sharesTo A O R lb k)[k]? = some z := ⟨_, List.getElem?_eq_getElem (by rw [sharesTo_len]; exact hlt)⟩
      have bx := HBD.out k hk x (List.mem_of_getElem? hx)
      obtain ⟨c1, f1, p1, p1'⟩ := HS.out.at1 (map_get hx)
      have hS1 := HS.out.set1 (map_get hx) (.int .i64 (x + o))
      rw [← show iC (x + o) = [Value.int .i64 (x + o)] from rfl, ← List.map_set, ← addAt_get o hx] at hS1
      have bS1 := addAt_bd (s := sharesTo A O R lb k) (i := k) (x := o) (M := (k : Int) * 80000000000000) (X := 40000000000000) (HBD.out k hk) (by omega) (by omega)
      obtain ⟨y, hy⟩ : ∃ z, (addAt (sharesTo A O R lb k) k o)[j]? = some z := ⟨_, List.getElem?_eq_getElem (by rw [addAt_len, sharesTo_len]; exact hj)⟩
      have bY := bS1 y (List.mem_of_getElem? hy)
      obtain ⟨c2, f2, p2, p2'⟩ := hS1.at1 (map_get hy)
      have hS2 := hS1.set1 (map_get hy) (.int .i64 (y + (A - o)))
      rw [← show iC (y + (A - o)) = [Value.int .i64 (y + (A - o))] from rfl, ← List.map_set, ← addAt_get (A - o) hy] at hS2
      have ES : addAt (addAt (sharesTo A O R lb k) k o) j (A - o) = sharesTo A O R lb (k + 1) := by
        rw [sharesTo, List.getD_eq_getElem?_getD, List.getD_eq_getElem?_getD, ho, hr]; rfl
      rw [ES] at hS2
      have HS2 := Lib.hid hS2
      obtain ⟨b1, q1, ha1, hbs1, cO⟩ := H1.out.one hb (map_get ho)
      have hb1 : Below w.heap.size w (wr.setCell ⟨G, k, none⟩ (.int .i64 (x + o))) := hb.setCell (by show w.heap.size ≤ G; omega) _
      obtain ⟨b2, q2, ha2, hbs2, cR⟩ := H2.out.one hb1 (map_get hr)
      have hX1 : (wr.setCell ⟨G, k, none⟩ (.int .i64 (x + o))).heap[w.heap.size]? = some (.cells #[.int .i64 A, .slice a lb ca, .slice b lb cb] 33 (0, 0)) := by
        rw [Below.heap_setCell _ _ _ _ (by show w.heap.size ≠ G; omega)]; exact HX.out
      have HX2 : Hid (((wr.setCell ⟨G, k, none⟩ (.int .i64 (x + o))).setCell ⟨G, j, none⟩ (.int .i64 (y + (A - o)))).heap[w.heap.size]? = some (.cells #[.int .i64 A, .slice a lb ca, .slice b lb cb] 33 (0, 0))) := by
        refine Lib.hid ?_
        rw [Below.heap_setCell _ _ _ _ (by show w.heap.size ≠ G; omega)]; exact hX1
      have HB2 := Lib.hid (hb1.setCell (p := ⟨G, j, none⟩) (by show w.heap.size ≤ G; omega) (.int .i64 (y + (A - o))))
      obtain ⟨⟨x0, x1, x2⟩, _, _, _⟩ := alias_cells hX1
      subst ha1 ha2
      have bx1 := bx.1
      have bx2 := bx.2
      have by1 := bY.1
      have by2 := bY.2
      have hk40 : (k : Int) * 80000000000000 ≤ 3200000000000000 := by omega
      clear ho hr hx hy hS1 hS2 bS1 bY bx ES hX1 hb1 HS HX r1 r2
      go_wp2_with fail
      generalize hW1 : wr.setCell ⟨G, k, none⟩ (.int .i64 (x + o)) = W1 at *
      clear hW1 c1 f1
      have c2' : W1.drew.cell? ⟨G, j, none⟩ = some (.int .i64 y) := c2
      have f2' : W1.drew.frozen? ⟨G, j, none⟩ = false := f2
      go_region
      go_wp2_with fail
      go_roundg (lb - (k + 1))
      case measure => have := HJ.out; omega
      case rel => exact ⟨k + 1, by omega, by go_num, Lib.hid HS2.out.drew, HX2, HB2.out.drew⟩
    · obtain rfl : k = lb := by omega
      go_wp2
      go_ret2
      exact ⟨_, rfl, HS.out.base_le (by omega), hb⟩
end Go.Proofs.Ytfndahcihmpmhaa
