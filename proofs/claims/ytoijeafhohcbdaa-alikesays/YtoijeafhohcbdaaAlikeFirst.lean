/- The contracts of the program's alike.First. -/
import Derived.Test.YtoijeafhohcbdaaAlikeCheck
import Derived.Test.YtoijeafhohcbdaaMinFunc
import Derived.Test.YtoijeafhohcbdaaDigitChk
import Derived.Test.YtoijeafhohcbdaaShelf
import Derived.BigQuiet
import Derived.Deep.QuietTactic
import Derived.Deep.DeepCutAuto
namespace Go.Proofs.Ytoijeafhohcbdaa
open Go.ChangeShapes Go.WideShapes Go.ChangeAt Go.RowKit
open Alk Digit

set_option maxRecDepth 100000 in
set_option maxHeartbeats 1000000 in
theorem firstClo_any (a : Option Addr) (len cap : Nat) (o : List Int) (X : Nat) (x y : Int) (w : World) (hT : Tab w a len cap 1 (o.map iC)) (hX : w.cell? ⟨X, 0, none⟩ = some (.slice a len cap)) (hx : 0 ≤ x ∧ x < len) (hy : 0 ≤ y ∧ y < len) :
    Calls Try.prog 45 #[.int .i64 x, .int .i64 y, .pointer (some ⟨X, 0, none⟩)] w fun e w' => e = .returned (.int .i64 (cmpO o x y)) ∧ Below w.heap.size w w' := by
  have hl := hT.hlen
  rw [List.length_map] at hl
  obtain ⟨i, rfl⟩ := Int.eq_ofNat_of_zero_le hx.1
  obtain ⟨j, rfl⟩ := Int.eq_ofNat_of_zero_le hy.1
  have hi : i < len := by omega
  have hj : j < len := by omega
  obtain ⟨u, hu⟩ : ∃ u, o[i]? = some u := ⟨_, List.getElem?_eq_getElem (by omega)⟩
  obtain ⟨v, hv⟩ : ∃ v, o[j]? = some v := ⟨_, List.getElem?_eq_getElem (by omega)⟩
  obtain ⟨b1, o1, ha, _, c0⟩ := hT.one (Below.refl _ _) (map_get hu)
  obtain ⟨b2, o2, ha2, _, c1⟩ := hT.one (Below.refl _ _) (map_get hv)
  have hc : cmpO o (i : Int) (j : Int) = Lib.compareInt u v := by
    unfold cmpO atO
    rw [Int.toNat_natCast, Int.toNat_natCast, hu, hv]
    rfl
  rw [hc]
  have C := Lib.hid (fun W => cmp_Compare_int u v W)
  rw [ha] at ha2
  simp only [Option.some.injEq, Addr.mk.injEq, and_true] at ha2
  obtain ⟨rfl, rfl⟩ := ha2
  subst ha
  clear hT hx hy hu hv hl hc
  generalize Lib.compareInt u v = d at *
  go_enter Try.func45, Try.ntmps45
  go_wp2_with fail
  go_quiet (first | (go_at_call 46; exact Calls.quiet_of_same (C.out _)))
  go_wp2_with fail
  go_ret
  exact ⟨rfl, below_drewN (Below.refl _ _) _⟩

set_option maxRecDepth 100000 in
set_option maxHeartbeats 2000000 in
theorem first_any (a b : Option Addr) (len cap len2 cap2 : Nat) (o l : List Int) (w : World) (h1 : Tab w a len cap 1 (o.map iC)) (h2 : Tab w b len2 cap2 1 (l.map iC)) :
    Calls Try.prog 14 #[.slice a len cap, .slice b len2 cap2] w fun e w' => e = .returned (.tuple #[.int .i64 (firstR o l), .int .i64 (firstE o l)]) ∧ Below w.heap.size w w' := by
  have hb : Below w.heap.size w (w.alloc (.cells #[.slice a len cap] 23)) := (Below.refl _ _).alloc (Nat.le_refl _) _
  have HB := Lib.hid hb
  have C1 := Lib.hid (digitCheck_any a len cap o _ (h1.below hb))
  by_cases g1 : checkD o ≠ 0
  · have E : firstE o l = checkD o := if_pos g1
    have R : firstR o l = 0 := if_neg (by rw [E]; exact g1)
    rw [E, R]
    have t : (checkD o != 0) = true := by simpa using g1
    clear E R h1 h2 g1 hb
    generalize checkD o = D at *
    go_enter Try.func14, Try.ntmps14
    go_wp2_with fail
    refine C1.out.mono ?_
    rintro e w1 ⟨rfl, hw1⟩
    rw [← hw1]
    clear hw1
    go_wp2
    go_ret2
    exact ⟨rfl, HB.out⟩
  have g1' : checkD o = 0 := by omega
  rw [g1'] at C1
  obtain ⟨o12, hok⟩ := checkD_zero g1'
  have hl := h1.hlen
  rw [List.length_map] at hl
  have E : firstE o l = setE len l := by unfold firstE; rw [if_neg g1, hl]
  have C2 := Lib.hid (setCheck_any len b len2 cap2 l _ (h2.below hb) (by omega))
  by_cases g2 : setE len l ≠ 0
  · have R : firstR o l = 0 := if_neg (by rw [E]; exact g2)
    rw [E, R]
    have t : (setE len l != 0) = true := by simpa using g2
    have hlen : len ≤ 12 := by omega
    clear E R h1 h2 g1 g1' hb g2 o12 hok hl
    generalize setE len l = D at *
    go_enter Try.func14, Try.ntmps14
    go_wp2_with fail
    refine C1.out.mono ?_
    rintro e w1 ⟨rfl, hw1⟩
    rw [← hw1]
    clear hw1
    go_wp2_with fail
    refine C2.out.mono ?_
    rintro e w1 ⟨rfl, hw1⟩
    rw [← hw1]
    clear hw1
    go_wp2
    go_ret2
    exact ⟨rfl, HB.out⟩
  have g2' : setE len l = 0 := by omega
  rw [g2'] at C2
  obtain ⟨s1, s2, s3, s4⟩ := setE_zero g2'
  have R : firstR o l = firstV o l := if_pos (by rw [E]; exact g2')
  rw [E, g2', R]
  have hX := (MapKept.heap_alloc w (.cells #[.slice a len cap] 23)).1
  have C3 := minFunc_any 45 (some ⟨w.heap.size, 0, none⟩) (cmpO o) b len2 cap2 l _ (h2.below hb) s2 (fun _ _ _ => rfl) (fun k hk1 hk2 => (minC_spec (cmpO_lt o) k hk1 hk2).1) (fun x hx y hy W hbW => by
    refine firstClo_any a len cap o w.heap.size x y W ((h1.below hb).below hbW) ?_ (s4 x hx) (s4 y hy)
    rw [hbW.cell (by simp)]
    exact cell_blk hX rfl)
  rw [show minC (cmpO o) l = firstV o l from rfl] at C3
  replace C3 := Lib.hid C3
  have hlen : len ≤ 12 := by omega
  clear E R h1 h2 g1 g1' g2 g2' s1 s2 s3 s4 hb o12 hok hl hX
  generalize firstV o l = r at *
  go_enter Try.func14, Try.ntmps14
  go_wp2_with fail
  refine C1.out.mono ?_
  rintro e w1 ⟨rfl, hw1⟩
  rw [← hw1]
  clear hw1
  go_wp2_with fail
  refine C2.out.mono ?_
  rintro e w1 ⟨rfl, hw1⟩
  rw [← hw1]
  clear hw1
  go_wp2_with fail
  refine C3.out.mono ?_
  rintro e w1 ⟨rfl, hb1⟩
  have HB1 := Lib.hid (below_on HB.out hb1)
  clear hb1
  go_wp2
  go_ret2
  exact ⟨rfl, HB1.out⟩
end Go.Proofs.Ytoijeafhohcbdaa
