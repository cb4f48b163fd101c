/- The contracts of the document's own answers on permutations: Order, Rank, Nth. -/
import Derived.Test.YtanfkolcoaofdaaDigitCheck
import Derived.Test.YtanfkolcoaofdaaRefWithin
import Derived.Test.YtanfkolcoaofdaaRefFact
import Derived.Test.YtanfkolcoaofdaaInfoInts
import Derived.Test.YtanfkolcoaofdaaOwnTwo
import Derived.Test.YtanfkolcoaofdaaOwnMore
import Derived.Test.YtanfkolcoaofdaaSubSlice
import Derived.Test.YtanfkolcoaofdaaContains
import Derived.Deep.LoopGhost
namespace Go.Proofs.Ytanfkolcoaofdaa
open Go.ChangeShapes Go.WideShapes Go.ChangeAt Go.RowKit
open Digit

theorem size_int' (w : World) : (sizeOf 3).run Try.prog w = .ok 1 w := by kernel_rfl
theorem elem_int' : Try.prog.elem 22 = 3 := by kernel_rfl
set_option maxRecDepth 100000 in
set_option maxHeartbeats 1000000 in
theorem refOrder_any (a : Option Addr) (len cap : Nat) (l : List Int) (w : World) (h : Tab w a len cap 1 (l.map iC)) :
    Calls Try.prog 17 #[.slice a len cap] w fun e w' => e = .returned (.int .i64 (checkD l)) ∧ w = w' := by
  have hl := h.hlen
  have hm := h.hmax
  have he := h.hle
  rw [List.length_map] at hl
  unfold maxLen at hm
  by_cases h12 : 12 < len
  · have E : Hid (checkD l = 2) := by unfold checkD; rw [if_pos (by omega)]; exact Lib.hid rfl
    clear h hl
    go_enter Try.func17, Try.ntmps17
    go_wp2
    go_ret
    exact ⟨ret_int E.out.symm, rfl⟩
  · have E : Hid (checkD l = goD len (l.take 0) (l.drop 0)) := by unfold checkD; rw [if_neg (by omega), hl]; exact Lib.hid rfl
    have h12' : len ≤ 12 := by omega
    have HT := Lib.hid h
    have HL := Lib.hid hl
    clear h hl
    go_enter Try.func17, Try.ntmps17
    go_wp2
    go_loopg [10] len (fun g i wr => wr = w ∧ ∃ k : Nat, k + g = len ∧ i = .int .i64 (k : Nat) ∧ Hid (checkD l = goD len (l.take k) (l.drop k)))
    case atStart => exact ⟨rfl, 0, by omega, rfl, E⟩
    case round =>
      obtain ⟨rfl, k, hk0, rfl, HE⟩ := hrel
      clear E
      have HJ := Lib.hid hk0
      have hk : k ≤ len := by omega
      clear hk0
      by_cases hlt : k < len
      · obtain ⟨x, hx⟩ : ∃ x, l[k]? = some x := ⟨_, List.getElem?_eq_getElem (by rw [HL.out]; exact hlt)⟩
        obtain ⟨b, off, ha, hbs, h0⟩ := HT.out.one (Below.refl _ _) (map_get hx)
        have HS := Lib.hid (goD_step (n := len) hx)
        subst ha
        have W := within_ref x 0 ((len : Int) - 1) wr
        clear hx
        by_cases r1 : x < 0 ∨ (len : Int) ≤ x
        · have HF : Hid (checkD l = 1) := by rw [HE.out, HS.out, if_pos r1]; exact Lib.hid rfl
          have r2 : (decide (0 ≤ x) && decide (x ≤ (len : Int) - 1)) = false := by
            rcases r1 with h | h
            · rw [show decide (0 ≤ x) = false from decide_eq_false (by omega)]; rfl
            · rw [show decide (x ≤ (len : Int) - 1) = false from decide_eq_false (by omega), Bool.and_false]
          rw [r2] at W
          have W := Lib.hid W
          clear r1 r2
          go_wp2_with fail
          refine W.out.mono ?_
          rintro e w1 ⟨rfl, rfl⟩
          go_wp2
          go_ret
          exact ⟨ret_int HF.out.symm, rfl⟩
        · have r2 : (decide (0 ≤ x) && decide (x ≤ (len : Int) - 1)) = true := by
            rw [show decide (0 ≤ x) = true from decide_eq_true (by omega), show decide (x ≤ (len : Int) - 1) = true from decide_eq_true (by omega)]; rfl
          rw [r2] at W
          have W := Lib.hid W
          have rU := run_upto 22 3 1 Try.underlying22 elem_int' size_int' (some ⟨b, off, none⟩) len cap k (by omega)
          have HU := HT.out.upto_ k hk
          rw [← List.map_take] at HU
          by_cases hm5 : x ∈ l.take k
          · have HF : Hid (checkD l = 5) := by rw [HE.out, HS.out, if_neg r1, if_pos hm5]; exact Lib.hid rfl
            have D := Lib.hid (contains_ints _ _ _ _ x wr HU true (by simpa using hm5))
            clear r1 r2 HS HU hm5
            go_wp2_with fail
            refine W.out.mono ?_
            rintro e w1 ⟨rfl, rfl⟩
            go_wp2_with fail
            refine D.out.mono ?_
            rintro e w1 ⟨rfl, rfl⟩
            go_wp2
            go_ret
            exact ⟨ret_int HF.out.symm, rfl⟩
          · have HF : Hid (checkD l = goD len (l.take (k + 1)) (l.drop (k + 1))) := by rw [HE.out, HS.out, if_neg r1, if_neg hm5]; exact Lib.hid rfl
            have D := Lib.hid (contains_ints _ _ _ _ x wr HU false (by simpa using hm5))
            clear r1 r2 HS HU hm5
            go_wp2_with fail
            refine W.out.mono ?_
            rintro e w1 ⟨rfl, rfl⟩
            go_wp2_with fail
            refine D.out.mono ?_
            rintro e w1 ⟨rfl, rfl⟩
            go_wp2
            go_roundg (len - (k + 1))
            case measure => have := HJ.out; omega
            case rel => exact ⟨rfl, k + 1, by omega, by go_num, HF⟩
      · have HF : Hid (checkD l = 0) := by rw [HE.out, List.drop_of_length_le (by rw [HL.out]; omega)]; exact Lib.hid rfl
        go_wp2
        go_ret
        exact ⟨ret_int HF.out.symm, rfl⟩

set_option maxRecDepth 100000 in
set_option maxHeartbeats 2000000 in
theorem refRank_any (a : Option Addr) (len cap : Nat) (l : List Int) (w : World) (h : Tab w a len cap 1 (l.map iC)) (h12 : l.length ≤ 12) (hok : Ok l) :
    Calls Try.prog 19 #[.slice a len cap] w fun e w' => e = .returned (.int .i64 (rankOf l : Nat)) ∧ w = w' := by
  have hl := h.hlen
  have hm := h.hmax
  have he := h.hle
  rw [List.length_map] at hl
  unfold maxLen at hm
  have hr : rankOf l ≤ 479001600 := by
    have := (orderOf_rank hok).1
    have := fact_max h12
    omega
  have HR := Lib.hid hr
  have HK := Lib.hid hok
  have HT := Lib.hid h
  have HL := Lib.hid hl
  have hlen : len ≤ 12 := by omega
  clear h hl h12 hok hr
  go_enter Try.func19, Try.ntmps19
  go_wp2
  go_loopg [3, 11] len (fun g z i wr => wr = w ∧ ∃ k s : Nat, k + g = len ∧ s ≤ 479001600 ∧ i = .int .i64 (k : Nat) ∧ z = .int .i64 (s : Nat) ∧ Hid (s + rankOf (l.drop k) = rankOf l))
  case atStart => exact ⟨rfl, 0, 0, by omega, by omega, rfl, rfl, Lib.hid (by rw [List.drop_zero, Nat.zero_add])⟩
  case round =>
    obtain ⟨rfl, k, s, hk0, hs, rfl, rfl, HE⟩ := hrel
    have HJ := Lib.hid hk0
    have hk : k ≤ len := by omega
    clear hk0
    by_cases hlt : k < len
    · have hkl : k < l.length := by rw [HL.out]; exact hlt
      obtain ⟨x, hx⟩ : ∃ x, l[k]? = some x := ⟨_, List.getElem?_eq_getElem hkl⟩
      obtain ⟨b, off, ha, hbs, h0⟩ := HT.out.one (Below.refl _ _) (map_get hx)
      subst ha
      have hxr := HK.out.2 x (List.mem_of_getElem? hx)
      rw [HL.out] at hxr
      have hsp : l = l.take k ++ x :: l.drop (k + 1) := by
        obtain ⟨_, rfl⟩ := List.getElem?_eq_some_iff.1 hx
        rw [← List.drop_eq_getElem_cons hkl, List.take_append_drop]
      have hah := less_ahead (A := l.take k) (B := l.drop (k + 1)) (x := x) (by rw [← hsp]; exact HK.out)
      have hrd : rankOf (l.drop k) = less x (l.drop (k + 1)) * fact (len - 1 - k) + rankOf (l.drop (k + 1)) := by
        obtain ⟨_, rfl⟩ := List.getElem?_eq_some_iff.1 hx
        rw [List.drop_eq_getElem_cons hkl, rankOf, List.length_drop, HL.out]
        congr 3
        omega
      have HE2 : Hid (s + less x (l.drop (k + 1)) * fact (len - 1 - k) + rankOf (l.drop (k + 1)) = rankOf l) := by
        have := HE.out
        rw [hrd] at this
        exact Lib.hid (by omega)
      have hs2 : s + less x (l.drop (k + 1)) * fact (len - 1 - k) ≤ 479001600 := by have h1 := HE2.out; have h2 := HR.out; omega
      have HAH := Lib.hid hah
      have rU := run_upto 22 3 1 Try.underlying22 elem_int' size_int' (some ⟨b, off, none⟩) len cap k (by omega)
      have F := refFact_any (len - 1 - k) (by omega)
      rw [show ((len - 1 - k : Nat) : Int) = (len : Int) - 1 - k from by omega] at F
      have F := Lib.hid F
      have hfm : fact (len - 1 - k) ≤ 479001600 := fact_max (by omega)
      clear hx hsp hah hrd HE
      obtain ⟨wo, hwo⟩ : ∃ wo, wo = wr := ⟨_, rfl⟩
      subst hwo
      go_wp2
      go_loopg [6, 21] k (fun g z i wr => wr = wo ∧ ∃ j : Nat, j + g = k ∧ i = .int .i64 (j : Nat) ∧ z = .int .i64 (x - (less x (l.take j) : Nat)) ∧ less x (l.take j) ≤ j)
      case atStart => exact ⟨rfl, 0, by omega, rfl, by simp [less], by simp [less]⟩
      case round =>
        obtain ⟨rfl, j, hj0, rfl, rfl, hle⟩ := hrel
        have HJ2 := Lib.hid hj0
        have hj : j ≤ k := by omega
        clear hj0
        by_cases hlt2 : j < k
        · obtain ⟨y, hy⟩ : ∃ y, l[j]? = some y := ⟨_, List.getElem?_eq_getElem (by omega)⟩
          obtain ⟨b2, off2, ha2, hbs2, h02⟩ := HT.out.one (Below.refl _ _) (map_get hy)
          simp only [Option.some.injEq, Addr.mk.injEq, and_true] at ha2
          obtain ⟨rfl, rfl⟩ := ha2
          have hst : less x (l.take (j + 1)) = less x (l.take j) + if y < x then 1 else 0 := by
            rw [List.take_add_one, hy, less_app]
            show _ + less x [y] = _
            rw [less_cons, show less x [] = 0 from rfl, Nat.zero_add]
          clear hy
          by_cases hyx : y < x
          · rw [if_pos hyx] at hst
            have HS := Lib.hid hst
            clear hst
            generalize less x (l.take j) = q at *
            go_wp2
            go_roundg (k - (j + 1))
            case measure => have := HJ2.out; omega
            case rel => exact ⟨rfl, j + 1, by omega, by go_num, by rw [HS.out]; go_num, by rw [HS.out]; omega⟩
          · rw [if_neg hyx] at hst
            have HS := Lib.hid hst
            have hxy : x ≤ y := by omega
            clear hst hyx
            generalize less x (l.take j) = q at *
            go_wp2
            go_roundg (k - (j + 1))
            case measure => have := HJ2.out; omega
            case rel => exact ⟨rfl, j + 1, by omega, by go_num, by rw [HS.out]; go_num, by rw [HS.out]; omega⟩
        · obtain rfl : j = k := by omega
          rw [HAH.out]
          clear hle HAH
          generalize less x (l.drop (j + 1)) = q at *
          generalize fact (len - 1 - j) = G at *
          have e1 : (q : Int) * (G : Int) = ((q * G : Nat) : Int) := by rw [Int.natCast_mul]
          have hq12 : q * G ≤ 479001600 := by omega
          generalize q * G = y at *
          go_wp2_with fail
          refine (F.out _).mono ?_
          rintro e w1 ⟨rfl, rfl⟩
          go_wp2
          go_roundg (len - (j + 1))
          case measure => have := HJ.out; omega
          case rel => exact ⟨rfl, j + 1, s + y, by omega, hs2, by go_num, by go_num, HE2⟩
    · have HF : Hid (s = rankOf l) := by
        have := HE.out
        rw [List.drop_of_length_le (by rw [HL.out]; omega)] at this
        exact Lib.hid (by simpa [rankOf] using this)
      go_wp2
      go_ret
      exact ⟨ret_int (by rw [HF.out]), rfl⟩

/-- a slice literal of one number, as the call's own -/
theorem Own.lit1 (w : World) (e : TypeId) (u : Value) : Own (w.alloc (.cells #[u] e)) w.heap.size e 1 (.slice (some ⟨w.heap.size, 0, none⟩) 1 1) [[u]] := by
  refine ⟨⟨by simp, .inr ⟨w.heap.size, 1, #[u], rfl, Nat.le_refl _, ?_, Nat.le_refl _, by decide, by simp, by simp⟩⟩, fun r h => by simp at h; subst h; rfl⟩
  exact (MapKept.heap_alloc w _).1
set_option maxRecDepth 100000 in
set_option maxHeartbeats 2000000 in
theorem refNth_any : ∀ (n r : Nat) (w : World), n ≤ 12 → r < fact n →
    Calls Try.prog 22 #[.int .i64 n, .int .i64 r] w (RetRows w 3 1 ((orderOf n r).map iC))
  | 0, r, w, _, _ => by
    have t0 : (((0 : Nat) : Int) == 0) = true := by simp
    go_enter Try.func22, Try.ntmps22
    go_wp2
    go_ret
    exact ⟨_, rfl, Own.nil _ _ _ _, Below.refl _ _⟩
  | n + 1, r, w, hn, hr => by
    have hfp := fact_pos n
    have hfm : fact n ≤ 479001600 := fact_max (by omega)
    have hfm1 : fact (n + 1) ≤ 479001600 := fact_max hn
    have hrm := Nat.mod_lt r hfp
    have IH := Lib.hid (fun W => refNth_any n (r % fact n) W (by omega) hrm)
    have F := Lib.hid (refFact_any n (by omega))
    have hqd := div_lt hr
    have hnth := order_nth hr
    obtain ⟨hlY, hokY⟩ := orderOf_ok (n := n) hrm
    have hr2 : r ≤ 479001600 := by omega
    have e1 : (((n + 1 : Nat) : Int) - 1) = (n : Int) := by omega
    have t0 : (((n + 1 : Nat) : Int) == 0) = false := by rw [beq_eq_false_iff_ne]; omega
    have e2 : ((r : Nat) : Int).tdiv ((fact n : Nat) : Int) = ((r / fact n : Nat) : Int) := rfl
    have e3 : ((r : Nat) : Int).tmod ((fact n : Nat) : Int) = ((r % fact n : Nat) : Int) := rfl
    generalize r / fact n = q at *
    generalize r % fact n = T at *
    generalize fact (n + 1) = FF at *
    generalize fact n = G at *
    have HY := Lib.hid (And.intro hlY hokY)
    have HN := Lib.hid hnth
    clear hlY hokY hnth hfm1 hr
    generalize orderOf n T = Y at *
    generalize hN1 : n + 1 = N1 at *
    have hN2 : N1 ≤ 12 := by omega
    have HN1 := Lib.hid hN1
    clear hN1
    go_enter Try.func22, Try.ntmps22
    go_wp2_with fail
    refine (F.out _).mono ?_
    rintro e w1 ⟨rfl, rfl⟩
    go_wp2_with fail
    refine (F.out _).mono ?_
    rintro e w2 ⟨rfl, rfl⟩
    go_wp2_with fail
    refine (IH.out _).mono ?_
    rintro e w3 ⟨s3, rfl, hO3, hb3⟩
    have hL := Own.lit1 w1 3 (.int .i64 (q : Nat))
    have hL3 := hL.below hb3
    have hap : Apart (.slice (some ⟨w1.heap.size, 0, none⟩) 1 1) s3 := by
      intro g h1 h2
      have := (hO3.own.lt g h2).1
      simp [Value.ownBlock] at h1
      simp at this
      omega
    have hbw : Below w1.heap.size w1 w3 := below_on ((Below.refl _ _).alloc (Nat.le_refl _) _) hb3
    obtain ⟨a3, cap3, rfl, hT3⟩ := hO3.tab
    have l3 : (Y.map iC).length = n := by rw [List.length_map]; exact HY.out.1
    rw [l3] at hO3 hap ⊢
    have hO3b := hO3.base_le (show w1.heap.size ≤ (w1.alloc (.cells #[.int .i64 (q : Nat)] 3)).heap.size by simp)
    have HST := Lib.hid (And.intro hL3 (And.intro hO3b hap))
    clear hL hL3 hap hO3 hO3b hT3 l3 hb3 IH F
    go_wp2
    go_loopg [6, 27] n (fun g v i wr => ∃ k : Nat, k + g = n ∧ i = .int .i64 (k : Nat) ∧ Hid (Own wr w1.heap.size 3 1 v (((q : Int) :: (Y.take k).map (bump q)).map iC) ∧ Own wr w1.heap.size 3 1 (.slice a3 n cap3) (Y.map iC) ∧ Apart v (.slice a3 n cap3)) ∧ Below w1.heap.size w1 wr)
    case atStart => exact ⟨0, by omega, rfl, HST, hbw⟩
    case round =>
      clear hbw HST
      obtain ⟨k, hk0, rfl, HO, hb⟩ := hrel
      have HJ := Lib.hid hk0
      have hk : k ≤ n := by omega
      clear hk0
      have hsz := hb.size
      by_cases hlt : k < n
      · obtain ⟨hOv, hOu, hap⟩ := HO.out
        obtain ⟨y, hy⟩ : ∃ y, Y[k]? = some y := ⟨_, List.getElem?_eq_getElem (by rw [HY.out.1]; exact hlt)⟩
        obtain ⟨b, off, ha, hbs, c0⟩ := hOu.tab_of.one (Below.refl _ _) (map_get hy)
        have hyr := HY.out.2.2 y (List.mem_of_getElem? hy)
        rw [HY.out.1] at hyr
        have HNo : Hid (((q : Int) :: (Y.take (k + 1)).map (bump q)).map iC = ((q : Int) :: (Y.take k).map (bump q)).map iC ++ [[.int .i64 (bump q y)]]) := by
          rw [List.take_add_one, hy, List.map_append, List.map_cons, List.map_cons, List.map_append]; exact Lib.hid rfl
        have hlen2 : (((q : Int) :: (Y.take k).map (bump q)).map iC).length ≤ 13 := by rw [List.length_map, List.length_cons, List.length_map, List.length_take]; omega
        subst ha
        clear hy HO
        generalize ((q : Int) :: (Y.take k).map (bump q)).map iC = R at *
        obtain ⟨z, hz⟩ : ∃ z, bump (q : Int) y = z := ⟨_, rfl⟩
        rw [hz] at HNo
        unfold bump at hz
        by_cases hqy : (q : Int) ≤ y
        · rw [if_pos hqy] at hz
          go_wp2_with (first | (at_builtin; refine wpList_append_rows_at _ rfl _ _ 22 rfl w1.heap.size 3 _ 1 8 Try.underlying22 info_int rfl (by decide) _ R rfl (hOv.alloc _) ⟨wr.heap.size, 0, none⟩ 1 1 [[.int .i64 z]] rfl rfl (by simp) (one_row _ _ _ _ (by simp)) (by simp [Value.oneCell']) (by omega) (by decide) (by simp; omega) ?_; intro v8 w8 hO8 hg8 hat8))
          go_roundg (n - (k + 1))
          case measure => have := HJ.out; omega
          case rel =>
            have g8 : (wr.alloc (.cells #[.int .i64 z] 3)).grownBy w8 u6.ownBlock := hg8
            exact ⟨k + 1, by omega, by go_num, Lib.hid ⟨by rw [HNo.out]; exact hO8, (hOu.alloc _).keptBy g8 hap.symm.or, hap.append (hOu.alloc (.cells #[.int .i64 z] 3)) (Nat.le_refl _) hat8⟩, (hOv.alloc _).under (hb.alloc hsz _) (Nat.le_refl _) (by simp; omega) g8⟩
        · rw [if_neg hqy] at hz
          subst hz
          have hqy' : y < (q : Int) := by omega
          clear hqy
          go_wp2_with (first | (at_builtin; refine wpList_append_rows_at _ rfl _ _ 22 rfl w1.heap.size 3 _ 1 8 Try.underlying22 info_int rfl (by decide) _ R rfl (hOv.alloc _) ⟨wr.heap.size, 0, none⟩ 1 1 [[.int .i64 y]] rfl rfl (by simp) (one_row _ _ _ _ (by simp)) (by simp [Value.oneCell']) (by omega) (by decide) (by simp; omega) ?_; intro v8 w8 hO8 hg8 hat8))
          go_roundg (n - (k + 1))
          case measure => have := HJ.out; omega
          case rel =>
            have g8 : (wr.alloc (.cells #[.int .i64 y] 3)).grownBy w8 u6.ownBlock := hg8
            exact ⟨k + 1, by omega, by go_num, Lib.hid ⟨by rw [HNo.out]; exact hO8, (hOu.alloc _).keptBy g8 hap.symm.or, hap.append (hOu.alloc (.cells #[.int .i64 y] 3)) (Nat.le_refl _) hat8⟩, (hOv.alloc _).under (hb.alloc hsz _) (Nat.le_refl _) (by simp; omega) g8⟩
      · have hO := HO.out.1
        rw [List.take_of_length_le (by rw [HY.out.1]; omega), ← HN.out] at hO
        have HO2 := Lib.hid hO
        clear hO HO
        go_wp2
        go_ret
        exact ⟨_, rfl, HO2.out, hb⟩

end Go.Proofs.Ytanfkolcoaofdaa
