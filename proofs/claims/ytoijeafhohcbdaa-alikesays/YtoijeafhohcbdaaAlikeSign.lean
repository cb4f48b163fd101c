/- The contract of the program's alike.Sign. -/
import Derived.Test.YtoijeafhohcbdaaAlikeFirst
import Derived.Test.YtoijeafhohcbdaaInfoInts
import Derived.Test.YtoijeafhohcbdaaOwnMore
namespace Go.Proofs.Ytoijeafhohcbdaa
open Go.ChangeShapes Go.WideShapes Go.ChangeAt Go.RowKit
open Alk

namespace Alk
def signR (os : List (List Int)) (l : List Int) : List Int := if signE os l = 0 then signL os l else []
theorem signL_len (os : List (List Int)) (l : List Int) : (signL os l).length = os.length := by simp [signL]
/-- the first k are told, the others not yet -/
def signTo (os : List (List Int)) (l : List Int) (k : Nat) : List Int := signL (os.take k) l ++ List.replicate (os.length - k) 0
theorem signTo_zero (os : List (List Int)) (l : List Int) : signTo os l 0 = List.replicate os.length 0 := by simp [signTo, signL]
theorem signTo_all (os : List (List Int)) (l : List Int) : signTo os l os.length = signL os l := by unfold signTo; rw [List.take_length, Nat.sub_self]; simp
theorem signTo_get {os : List (List Int)} {l : List Int} {k : Nat} (h : k < os.length) : (signTo os l k)[k]? = some 0 := by
  have e : (signL (os.take k) l).length = k := by rw [signL_len, List.length_take]; omega
  unfold signTo
  rw [List.getElem?_append_right (by omega), e, Nat.sub_self, List.getElem?_replicate, if_pos (by omega)]
theorem signTo_succ {os : List (List Int)} {l o : List Int} {k : Nat} (h : os[k]? = some o) : (signTo os l k).set k (firstV o l) = signTo os l (k + 1) := by
  have hk := (List.getElem?_eq_some_iff.1 h).1
  have e : (signL (os.take k) l).length = k := by rw [signL_len, List.length_take]; omega
  unfold signTo
  rw [List.set_append_right _ _ (by omega), e, Nat.sub_self, show os.length - k = (os.length - (k + 1)) + 1 from by omega, List.replicate_succ, List.set_cons_zero, List.take_add_one, h]
  simp [signL]
end Alk

set_option maxRecDepth 100000 in
set_option maxHeartbeats 2000000 in
theorem sign_any (q b : Option Addr) (n c len2 cap2 : Nat) (S : List (Sl Int)) (l : List Int) (w : World) (h : Tab w q n c 1 (S.map slC)) (hS : ∀ s ∈ S, Tab w s.a s.len s.cap 1 (s.l.map iC)) (h2 : Tab w b len2 cap2 1 (l.map iC)) :
    Calls Try.prog 12 #[.slice q n c, .slice b len2 cap2] w fun e w' => ∃ v, e = .returned (.tuple #[v, .int .i64 (signE (S.map (·.l)) l)]) ∧ Own w' w.heap.size 3 1 v ((signR (S.map (·.l)) l).map iC) ∧ Below w.heap.size w w' := by
  have hl := h.hlen
  rw [List.length_map] at hl
  have hlo : (S.map (·.l)).length = n := by rw [List.length_map]; exact hl
  by_cases g1 : 40 < n
  · have E : signE (S.map (·.l)) l = 2 := if_pos (by omega)
    have R : signR (S.map (·.l)) l = [] := if_neg (by rw [E]; decide)
    rw [E, R]
    clear E R h hS h2 hl hlo
    go_enter Try.func12, Try.ntmps12
    go_wp2
    go_ret2
    exact ⟨_, rfl, Own.nil _ _ _ _, Below.refl _ _⟩
  have g1' : n ≤ 40 := by omega
  have hE : signE (S.map (·.l)) l = goG l (S.map (·.l)) := if_neg (by omega)
  obtain ⟨E, hEE⟩ : ∃ E, signE (S.map (·.l)) l = E := ⟨_, rfl⟩
  obtain ⟨R, hR⟩ : ∃ R, signR (S.map (·.l)) l = R := ⟨_, rfl⟩
  have HG0 : Hid (goG l ((S.map (·.l)).drop 0) = E) := Lib.hid (by rw [← hEE, hE]; rfl)
  have HR : Hid (R = if E = 0 then signL (S.map (·.l)) l else []) := Lib.hid (by rw [← hR, ← hEE]; rfl)
  rw [hEE, hR]
  obtain ⟨i0, hi, hz0, hz1, hz2⟩ := info_parts info_int
  have HI := Lib.hid (And.intro hi (And.intro hz0 (And.intro hz1 hz2)))
  have HT := Lib.hid h
  have HS := Lib.hid hS
  have HT2 := Lib.hid h2
  have HL := Lib.hid (And.intro hl hlo)
  clear h hS h2 hl g1 hE hEE hR hi hz0 hz1 hz2
  go_enter Try.func12, Try.ntmps12
  go_wp2_with (at_make; refine wpList_make_full _ rfl _ _ 23 rfl w.heap.size 3 i0 (.int .i64 0) 1 Try.underlying23 HI.out.1 HI.out.2.1 HI.out.2.2.1 _ _ _ _ n rfl rfl rfl rfl (by rw [HI.out.2.2.2]; omega) (by unfold maxLen; omega) (Nat.le_refl _) ?_; intro w3 hO3 hg3)
  have hO4 : Own w3 w.heap.size 3 1 (.slice (some ⟨w.heap.size, 0, none⟩) n n) ((signTo (S.map (·.l)) l 0).map iC) := by
    rw [signTo_zero, hlo]
    exact Own.full hO3 (made_ints n)
  have HO4 := Lib.hid hO4
  have HB3 := Lib.hid (show Below w.heap.size w w3 from (Below.refl _ _).grown hg3 (Nat.le_refl _) (fun j hj => by cases hj))
  generalize hGG : w.heap.size = G at *
  have HGG := Lib.hid hGG
  clear hO3 hg3 hO4 HI hGG
  go_loopg [19] n (fun g i wr => ∃ k : Nat, k + g = n ∧ i = .int .i64 k ∧ Hid (goG l ((S.map (·.l)).drop k) = E) ∧ Hid (Own wr G 3 1 (.slice (some ⟨G, 0, none⟩) n n) ((signTo (S.map (·.l)) l k).map iC)) ∧ Hid (Below G w wr))
  case atStart => exact ⟨0, by omega, rfl, HG0, HO4, HB3⟩
  case round =>
    clear HG0 HO4 HB3
    obtain ⟨k, hk0, rfl, HGk, HO, HW⟩ := hrel
    have HJ := Lib.hid hk0
    have hk : k ≤ n := by omega
    clear hk0
    by_cases hlt : k < n
    · obtain ⟨s, hs⟩ : ∃ x, S[k]? = some x := ⟨_, List.getElem?_eq_getElem (by rw [HL.out.1]; exact hlt)⟩
      have hwg : Below w.heap.size w wr := by rw [HGG.out]; exact HW.out
      obtain ⟨b1, o1, ha, hbs, c0⟩ := HT.out.one hwg (show (S.map slC)[k]? = some [Value.slice s.a s.len s.cap] from map_get hs)
      have hos : (S.map (·.l))[k]? = some s.l := map_get hs
      have C := Lib.hid (first_any s.a b s.len s.cap len2 cap2 s.l l wr ((HS.out s (List.mem_of_getElem? hs)).below hwg) (HT2.out.below hwg))
      have hA := goG_at (l := l) hos
      rw [HGk.out] at hA
      have hN := signTo_succ (l := l) hos
      have hg := signTo_get (l := l) (show k < (S.map (·.l)).length by rw [HL.out.2]; exact hlt)
      obtain ⟨sa, sn, sc, o⟩ := s
      simp only at c0 C hA hN
      by_cases he : firstE o l ≠ 0
      · have hEE : firstE o l = E := by rw [hA, if_pos he]
        rw [hEE] at C he
        obtain rfl : R = [] := by rw [HR.out, if_neg he]
        have t : (E != 0) = true := by simpa using he
        subst ha
        clear hs hos hA hN hg he HR HGk HO hEE
        go_wp2_with fail
        refine C.out.mono ?_
        rintro e w5 ⟨rfl, hb⟩
        have HB := Lib.hid (HW.out.trans (hb.mono (by have := HW.out.size; have h9 := hwg.size; rw [HGG.out] at h9; exact h9)))
        clear hb
        go_wp2
        go_ret2
        exact ⟨_, rfl, Own.nil _ _ _ _, by rw [HGG.out]; exact HB.out⟩
      · have he0 : firstE o l = 0 := by omega
        rw [if_neg he] at hA
        rw [show firstR o l = firstV o l from if_pos he0, he0] at C
        have HA := Lib.hid hA
        clear hA he he0
        have hW2 := HW.out
        have hsz : G ≤ wr.heap.size := by have h9 := hwg.size; rw [HGG.out] at h9; exact h9
        have HN := Lib.hid hN
        have Hg := Lib.hid hg
        subst ha
        clear hs hos hN hg hwg
        generalize firstV o l = f at *
        go_wp2_with fail
        refine C.out.mono ?_
        rintro e w5 ⟨rfl, hb⟩
        have hO5 := HO.out.below hb
        have HB := Lib.hid (hW2.trans (hb.mono hsz))
        obtain ⟨d1, d2, _, _⟩ := hO5.at1 (map_get Hg.out)
        have hS5 := hO5.set1 (map_get Hg.out) (.int .i64 f)
        rw [← show iC f = [Value.int .i64 f] from rfl, ← List.map_set, HN.out] at hS5
        have HS5 := Lib.hid hS5
        have HB5 := Lib.hid (HB.out.setCell (p := ⟨G, k, none⟩) (Nat.le_refl _) (.int .i64 f))
        clear hb hO5 hS5 C hW2
        go_wp2_with fail
        go_roundg (n - (k + 1))
        case measure => have := HJ.out; omega
        case rel => exact ⟨k + 1, by omega, by go_num, Lib.hid HA.out.symm, HS5, HB5⟩
    · obtain rfl : k = n := by omega
      obtain rfl : E = 0 := by rw [← HGk.out, List.drop_of_length_le (by rw [HL.out.2]; omega)]; rfl
      obtain rfl : R = signL (S.map (·.l)) l := by rw [HR.out, if_pos rfl]
      have hO9 : Own wr G 3 1 (.slice (some ⟨G, 0, none⟩) k k) ((signL (S.map (·.l)) l).map iC) := by
        have := HO.out
        rw [show signTo (S.map (·.l)) l k = signL (S.map (·.l)) l from by rw [← HL.out.2]; exact signTo_all _ _] at this
        exact this
      have HO9 := Lib.hid hO9
      have HW9 := HW
      clear hO9 HO HGk HR
      go_wp2
      go_ret2
      exact ⟨_, rfl, by rw [HGG.out]; exact HO9.out, by rw [HGG.out]; exact HW9.out⟩
end Go.Proofs.Ytoijeafhohcbdaa
