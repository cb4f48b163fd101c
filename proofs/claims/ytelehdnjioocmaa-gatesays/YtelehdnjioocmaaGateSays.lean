/-
  'Rows.GateSaysSaid' is proved: Keep, Level, Part and Count answer what the document says, for all arguments. No condition.
  The frame of this proof was written by the kit's proof-skeleton.mjs.
-/
import Derived.Test.YtelehdnjioocmaaRows
import Derived.Test.YtelehdnjioocmaaGate
import Derived.Test.YtelehdnjioocmaaRefGate
import Derived.Test.YtelehdnjioocmaaRefWithin
import Derived.Deep.DeepCutAuto
import Derived.WalkKit
import Derived.ProofKit
import Derived.ChangeOld
import Derived.Below
import Derived.OpenShut
import Derived.ShutString
namespace Go.Proofs.Ytelehdnjioocmaa.gateSays
open Go.ChangeShapes Go.WideShapes Go.ChangeAt Go.RowKit
open Go.ChangeMaps (open_string shut_string)
set_option linter.unusedVariables false      -- a walk need not use every 'w<i>' (that an integer argument fits its kind)

theorem own : ownKnob Try.prog.godebug = none := by kernel_rfl

def dOk (x : Int) : Bool := decide (0 ≤ x) && decide (x ≤ 72057594037927935)
def cOk (x : Int) : Bool := decide (0 ≤ x) && decide (x ≤ 1000000000000)
theorem dOk_yes {x : Int} (h : dOk x = true) : 0 ≤ x ∧ x < 72057594037927936 := by simp [dOk] at h; omega
theorem dOk_no {x : Int} (h : dOk x = false) : x < 0 ∨ 72057594037927936 ≤ x := by simp [dOk] at h; omega
theorem cOk_yes {x : Int} (h : cOk x = true) : 0 ≤ x ∧ x ≤ 1000000000000 := by simp [cOk] at h; omega
theorem cOk_no {x : Int} (h : cOk x = false) : x < 0 ∨ 1000000000000 < x := by simp [cOk] at h; omega
theorem draw_ref (x : Int) (w : World) : Calls Try.prog 16 #[.int .i64 x] w fun e w' => e = .returned (.bool (dOk x)) ∧ w = w' := by
  go_enter Try.func16, Try.ntmps16
  go_wp2_with fail
  refine (within_ref _ _ _ _).mono ?_
  rintro e w' ⟨rfl, rfl⟩
  go_wp2
  go_ret
  exact ⟨rfl, rfl⟩
theorem count_ref (x : Int) (w : World) : Calls Try.prog 19 #[.int .i64 x] w fun e w' => e = .returned (.bool (cOk x)) ∧ w = w' := by
  go_enter Try.func19, Try.ntmps19
  go_wp2_with fail
  refine (within_ref _ _ _ _).mono ?_
  rintro e w' ⟨rfl, rfl⟩
  go_wp2
  go_ret
  exact ⟨rfl, rfl⟩
theorem refLevel_int (n : Int) (h0 : 0 ≤ n) (hn : n ≤ 20) (w : World) :
    Calls Try.prog 17 #[.int .i64 n] w fun e w' => e = .returned (.int .i64 ((two56 - keptAt n.toNat : Nat) : Int)) ∧ w = w' := by
  have h := refLevel_any n.toNat (by omega) w
  rw [Int.toNat_of_nonneg h0] at h
  exact h
theorem refPart_int (num den : Int) (h1 : 1 ≤ num) (h2 : num ≤ den) (h3 : den ≤ 1000000000000) (w : World) :
    Calls Try.prog 18 #[.int .i64 num, .int .i64 den] w fun e w' => e = .returned (.int .i64 ((two56 - fewOf num.toNat den.toNat : Nat) : Int)) ∧ w = w' := by
  have h := refPart_any num.toNat den.toNat (by omega) (by omega) (by omega) w
  rw [Int.toNat_of_nonneg (by omega : 0 ≤ num), Int.toNat_of_nonneg (by omega : 0 ≤ den)] at h
  exact h
theorem refMany_int (n th : Int) (h0 : 0 ≤ n) (h1 : n ≤ 1000000000000) (h2 : 0 ≤ th) (h3 : th < 72057594037927936) (w : World) :
    Calls Try.prog 20 #[.int .i64 n, .int .i64 th] w fun e w' => e = .returned (.int .i64 (if manyOf n.toNat th.toNat ≤ 4611686018427387904 then (manyOf n.toNat th.toNat : Int) else -1)) ∧ w = w' := by
  have h := refMany_any n.toNat th.toNat (by omega) (by omega) w
  rw [Int.toNat_of_nonneg h0, Int.toNat_of_nonneg h2] at h
  exact h
theorem keep_any (th r : Int) : ∃ (b : Bool) (c : Int), (dOk th = true → dOk r = true → b = decide (th ≤ r) ∧ c = 0) ∧ (dOk th = false ∨ dOk r = false → b = false ∧ c = 1) ∧
    ∀ w, Calls Try.prog 12 #[.int .i64 th, .int .i64 r] w fun e w' => e = .returned (.tuple #[.bool b, .int .i64 c]) ∧ w = w' := by
  cases h1 : dOk th with
  | false => exact ⟨false, 1, fun h => by simp at h, fun _ => ⟨rfl, rfl⟩, keep_bad th r (Or.inl (dOk_no h1))⟩
  | true =>
    cases h2 : dOk r with
    | false => exact ⟨false, 1, fun _ h => by simp at h, fun _ => ⟨rfl, rfl⟩, keep_bad th r (Or.inr (dOk_no h2))⟩
    | true => exact ⟨_, 0, fun _ _ => ⟨rfl, rfl⟩, fun h => by simp at h, keep_ok th r (dOk_yes h1).1 (dOk_yes h1).2 (dOk_yes h2).1 (dOk_yes h2).2⟩
theorem level_any (n : Int) : ∃ (l c : Int), (0 ≤ n → n ≤ 20 → l = ((two56 - keptAt n.toNat : Nat) : Int) ∧ c = 0) ∧ (n < 0 ∨ 20 < n → l = 0 ∧ c = 1) ∧
    ∀ w, Calls Try.prog 13 #[.int .i64 n] w fun e w' => e = .returned (.tuple #[.int .i64 l, .int .i64 c]) ∧ w = w' := by
  by_cases h : n < 0 ∨ 20 < n
  · exact ⟨0, 1, fun _ _ => by omega, fun _ => ⟨rfl, rfl⟩, level_bad n h⟩
  · exact ⟨_, 0, fun _ _ => ⟨rfl, rfl⟩, fun h' => absurd h' h, level_int n (by omega) (by omega)⟩
theorem part_any (num den : Int) : ∃ (l c : Int), (1 ≤ den → den ≤ 1000000000000 → 1 ≤ num → num ≤ den → l = ((two56 - fewOf num.toNat den.toNat : Nat) : Int) ∧ c = 0) ∧ ((den < 1 ∨ 1000000000000 < den) ∨ (num < 1 ∨ den < num) → l = 0 ∧ c = 1) ∧
    ∀ w, Calls Try.prog 14 #[.int .i64 num, .int .i64 den] w fun e w' => e = .returned (.tuple #[.int .i64 l, .int .i64 c]) ∧ Below w.heap.size w w' := by
  by_cases h : (den < 1 ∨ 1000000000000 < den) ∨ (num < 1 ∨ den < num)
  · exact ⟨0, 1, fun _ _ _ _ => by omega, fun _ => ⟨rfl, rfl⟩, fun w => (part_bad num den h w).mono fun e w' ⟨a, b⟩ => ⟨a, b ▸ Below.refl _ _⟩⟩
  · refine ⟨_, 0, fun _ _ _ _ => ⟨rfl, rfl⟩, fun h' => absurd h' h, fun w => ?_⟩
    have := part_ok num.toNat den.toNat (by omega) (by omega) (by omega) w
    rw [Int.toNat_of_nonneg (by omega : 0 ≤ num), Int.toNat_of_nonneg (by omega : 0 ≤ den)] at this
    exact this
theorem count_any (n th : Int) : ∃ (l c : Int), (cOk n = true → dOk th = true → manyOf n.toNat th.toNat ≤ 4611686018427387904 → l = (manyOf n.toNat th.toNat : Nat) ∧ c = 0) ∧
    (cOk n = true → dOk th = true → 4611686018427387904 < manyOf n.toNat th.toNat → l = 0 ∧ c = 2) ∧ (cOk n = false ∨ dOk th = false → l = 0 ∧ c = 1) ∧
    ∀ w, Calls Try.prog 15 #[.int .i64 n, .int .i64 th] w fun e w' => e = .returned (.tuple #[.int .i64 l, .int .i64 c]) ∧ Below w.heap.size w w' := by
  by_cases h : cOk n = false ∨ dOk th = false
  · refine ⟨0, 1, fun h1 h2 => by simp [h1, h2] at h, fun h1 h2 => by simp [h1, h2] at h, fun _ => ⟨rfl, rfl⟩, fun w => (count_bad n th ?_ w).mono fun e w' ⟨a, b⟩ => ⟨a, b ▸ Below.refl _ _⟩⟩
    rcases h with h | h
    · exact Or.inl (cOk_no h)
    · exact Or.inr (dOk_no h)
  · have h1 : cOk n = true := by cases hc : cOk n <;> simp [hc] at h ⊢
    have h2 : dOk th = true := by cases hc : dOk th <;> simp [h1, hc] at h ⊢
    have k1 := cOk_yes h1
    have k2 := dOk_yes h2
    by_cases hm : manyOf n.toNat th.toNat ≤ 4611686018427387904
    · refine ⟨_, 0, fun _ _ _ => ⟨rfl, rfl⟩, fun _ _ h' => by omega, fun h' => absurd h' h, fun w => ?_⟩
      have := count_ok n.toNat th.toNat (by omega) (by omega) hm w
      rw [Int.toNat_of_nonneg k1.1, Int.toNat_of_nonneg k2.1] at this
      exact this
    · refine ⟨0, 2, fun _ _ h' => absurd h' hm, fun _ _ _ => ⟨rfl, rfl⟩, fun h' => absurd h' h, fun w => ?_⟩
      have := count_large n.toNat th.toNat (by omega) (by omega) (by omega) w
      rw [Int.toNat_of_nonneg k1.1, Int.toNat_of_nonneg k2.1] at this
      exact this

/-! ### STEP 1: THE WALK: the Go text returns true. 'Grown w w'': the world has at most new blocks (Derived/RowKit3.lean). Part the cases AHEAD of 'go_enter' where a test parts the walk; take each callee by a contract of your own. -/
set_option maxRecDepth 100000 in
set_option maxHeartbeats 1000000 in
theorem walk (a0 : Int) (a1 : Int) (a2 : Int) (a3 : Int) (a4 : Int) (w0 : (Lit.int .i64 a0).wf = true) (w1 : (Lit.int .i64 a1).wf = true) (w2 : (Lit.int .i64 a2).wf = true) (w3 : (Lit.int .i64 a3).wf = true) (w4 : (Lit.int .i64 a4).wf = true) (w : World) :
    Calls Try.prog 3 #[.int .i64 a0, .int .i64 a1, .int .i64 a2, .int .i64 a3, .int .i64 a4] w fun e w' => e = .returned (.bool true) ∧ Below w.heap.size w w' := by
  obtain ⟨b1, c1, K1, K1', C1x⟩ := keep_any a0 a1
  obtain ⟨l2, c2, K2, K2', C2x⟩ := level_any a2
  obtain ⟨l3, c3, K3, K3', C3x⟩ := part_any a3 a4
  obtain ⟨l4, c4, K4, K4', K4'', C4x⟩ := count_any a2 a0
  have H1 := Lib.hid (And.intro K1 K1')
  have H2 := Lib.hid (And.intro K2 K2')
  have H3 := Lib.hid (And.intro K3 K3')
  have H4 := Lib.hid (And.intro K4 (And.intro K4' K4''))
  have C1 := Lib.hid C1x
  clear C1x
  have C2 := Lib.hid C2x
  clear C2x
  have C3 := Lib.hid C3x
  clear C3x
  have C4 := Lib.hid C4x
  clear C4x
  have C5x := level_int 1 (by omega) (by omega)
  rw [show ((two56 - keptAt (1 : Int).toNat : Nat) : Int) = 36028797018963968 from by decide +kernel] at C5x
  have C5 := Lib.hid C5x
  clear C5x
  clear K1 K1' K2 K2' K3 K3' K4 K4' K4''
  have D0 := Lib.hid (draw_ref a0)
  have D1 := Lib.hid (draw_ref a1)
  have D2 := Lib.hid (count_ref a2)
  generalize hd0 : dOk a0 = d0 at *
  generalize hd1 : dOk a1 = d1 at *
  generalize hd2 : cOk a2 = d2 at *
  have T0 := Lib.hid hd0
  have T2 := Lib.hid hd2
  clear hd0 hd1 hd2
  have W := Lib.hid (And.intro w0 (And.intro w1 (And.intro w2 (And.intro w3 w4))))
  clear w0 w1 w2 w3 w4
  go_enter Try.func3, Try.ntmps3
  go_wp2_with fail
  refine (C1.out _).mono ?_
  rintro e v1 ⟨rfl, rfl⟩
  go_wp2_with fail
  refine (C2.out _).mono ?_
  rintro e v1 ⟨rfl, rfl⟩
  go_wp2_with fail
  refine (C3.out _).mono ?_
  rintro e v1 ⟨rfl, hb1⟩
  go_wp2_with fail
  refine (C4.out _).mono ?_
  rintro e v2 ⟨rfl, hb2⟩
  have hw := below_on hb1 hb2
  go_wp2_with fail
  refine (C5.out _).mono ?_
  rintro e v3 ⟨rfl, rfl⟩
  clear C1 C2 C3 C4 C5 hb1 hb2
  go_upto_region 8 with fail
  go_cut [62] (fun s wx => s = .bool (!(d0 && d1)) ∧ wx = v2)
  case first =>
    cases d0
    · go_wp2_with fail
      refine (D0.out _).mono ?_
      rintro e v ⟨rfl, rfl⟩
      go_wp2_with fail
      go_meet
      case rel => exact ⟨rfl, rfl⟩
    · go_wp2_with fail
      refine (D0.out _).mono ?_
      rintro e v ⟨rfl, rfl⟩
      go_wp2_with fail
      refine (D1.out _).mono ?_
      rintro e v ⟨rfl, rfl⟩
      go_wp2_with fail
      go_meet
      case rel => exact ⟨rfl, rfl⟩
  case rest =>
    obtain ⟨rfl, rfl⟩ := hcut
    clear D1
    go_upto_if 62 with fail
    go_cut [] (fun wx => wx = wc)
    case first =>
      obtain ⟨A1, A2⟩ := H1.out
      cases d0
      · obtain ⟨rfl, rfl⟩ := A2 (Or.inl rfl)
        clear A1 A2 H1 H2 H3 H4
        go_wp2_with fail
        go_meet
        case rel => rfl
      · cases d1
        · obtain ⟨rfl, rfl⟩ := A2 (Or.inr rfl)
          clear A1 A2 H1 H2 H3 H4
          go_wp2_with fail
          go_meet
          case rel => rfl
        · obtain ⟨rfl, rfl⟩ := A1 rfl rfl
          clear A1 A2 H1 H2 H3 H4
          go_wp2_with fail
          go_meet
          case rel => rfl
    case rest =>
      clear H1
      subst hcut
      go_upto_region 13 with fail
      obtain ⟨bn, HN⟩ : ∃ b : Bool, Hid (b = (decide (a2 < 0) || decide (20 < a2))) := ⟨_, Lib.hid rfl⟩
      go_cut [82] (fun s wx => s = .bool bn ∧ wx = wc)
      case first =>
        clear H2 H3 H4
        go_wp2_with fail
        all_goals go_meet
        all_goals rw [HN.out]
        all_goals refine ⟨congrArg Value.bool ?_, rfl⟩
        all_goals first | rfl | (simp; omega)
      case rest =>
      obtain ⟨rfl, rfl⟩ := hcut
      go_upto_if 82 with fail
      go_cut [] (fun wx => wx = wc)
      case first =>
        by_cases hn : a2 < 0 ∨ 20 < a2
        · obtain ⟨rfl, rfl⟩ := H2.out.2 hn
          obtain rfl : bn = true := by rw [HN.out]; simp; omega
          clear HN
          clear H2 H3 H4 hn
          go_wp2_with fail
          go_meet
          case rel => rfl
        · have h0 : 0 ≤ a2 := by omega
          have h1 : a2 ≤ 20 := by omega
          obtain ⟨rfl, rfl⟩ := H2.out.1 h0 h1
          obtain rfl : bn = false := by rw [HN.out]; simp; omega
          clear HN
          have R := Lib.hid (refLevel_int a2 h0 h1)
          clear H2 H3 H4 hn h0 h1
          generalize ((two56 - keptAt a2.toNat : Nat) : Int) = T at *
          go_wp2_with fail
          refine (R.out _).mono ?_
          rintro e v ⟨rfl, rfl⟩
          go_wp2_with fail
          go_meet
          case rel => rfl
      case rest =>
        clear H2
        subst hcut
        go_upto_region 18 with fail
        obtain ⟨bp, HP⟩ : ∃ b : Bool, Hid (b = (((decide (a4 < 1) || decide (1000000000000 < a4)) || decide (a3 < 1)) || decide (a4 < a3))) := ⟨_, Lib.hid rfl⟩
        go_cut [111] (fun s wx => s = .bool bp ∧ wx = wc)
        case first =>
          clear H3 H4
          go_wp2_with fail
          all_goals go_meet
          all_goals rw [HP.out]
          all_goals refine ⟨congrArg Value.bool ?_, rfl⟩
          all_goals first | rfl | (simp; omega)
        case rest =>
        obtain ⟨rfl, rfl⟩ := hcut
        go_upto_if 111 with fail
        go_cut [] (fun wx => wx = wc)
        case first =>
          by_cases hn : (a4 < 1 ∨ 1000000000000 < a4) ∨ (a3 < 1 ∨ a4 < a3)
          · obtain ⟨rfl, rfl⟩ := H3.out.2 hn
            obtain rfl : bp = true := by rw [HP.out]; simp; omega
            clear HP
            clear H3 H4 hn
            go_wp2_with fail
            go_meet
            case rel => rfl
          · have h0 : 1 ≤ a4 := by omega
            have h1 : a4 ≤ 1000000000000 := by omega
            have h2 : 1 ≤ a3 := by omega
            have h3 : a3 ≤ a4 := by omega
            obtain ⟨rfl, rfl⟩ := H3.out.1 h0 h1 h2 h3
            obtain rfl : bp = false := by rw [HP.out]; simp; omega
            clear HP
            have R := Lib.hid (refPart_int a3 a4 h2 h3 h1)
            clear H3 H4 hn h0 h1 h2 h3
            generalize ((two56 - fewOf a3.toNat a4.toNat : Nat) : Int) = T at *
            go_wp2_with fail
            refine (R.out _).mono ?_
            rintro e v ⟨rfl, rfl⟩
            go_wp2_with fail
            go_meet
            case rel => rfl
        case rest =>
          clear H3
          subst hcut
          go_upto_region 23 with fail
          go_cut [134] (fun s wx => s = .bool (!(d2 && d0)) ∧ wx = wc)
          case first =>
            clear H4
            cases d2
            · go_wp2_with fail
              refine (D2.out _).mono ?_
              rintro e v ⟨rfl, rfl⟩
              go_wp2_with fail
              go_meet
              case rel => exact ⟨rfl, rfl⟩
            · go_wp2_with fail
              refine (D2.out _).mono ?_
              rintro e v ⟨rfl, rfl⟩
              go_wp2_with fail
              refine (D0.out _).mono ?_
              rintro e v ⟨rfl, rfl⟩
              go_wp2_with fail
              go_meet
              case rel => exact ⟨rfl, rfl⟩
          case rest =>
            obtain ⟨rfl, rfl⟩ := hcut
            obtain ⟨A1, A2, A3⟩ := H4.out
            cases d2
            · obtain ⟨rfl, rfl⟩ := A3 (Or.inl rfl)
              clear A1 A2 A3 H4
              go_wp2
              go_ret
              exact ⟨rfl, hw⟩
            cases d0
            · obtain ⟨rfl, rfl⟩ := A3 (Or.inr rfl)
              clear A1 A2 A3 H4
              go_wp2
              go_ret
              exact ⟨rfl, hw⟩
            · have k2 := cOk_yes T2.out
              have k0 := dOk_yes T0.out
              have R := Lib.hid (refMany_int a2 a0 k2.1 k2.2 k0.1 k0.2)
              by_cases hm : manyOf a2.toNat a0.toNat ≤ 4611686018427387904
              · obtain ⟨rfl, rfl⟩ := A1 rfl rfl hm
                rw [if_pos hm] at R
                generalize manyOf a2.toNat a0.toNat = M at *
                clear A1 A2 A3 H4 T0 T2 hm
                go_wp2_with fail
                refine (R.out _).mono ?_
                rintro e v ⟨rfl, rfl⟩
                go_wp2
                go_ret
                exact ⟨rfl, hw⟩
              · obtain ⟨rfl, rfl⟩ := A2 rfl rfl (by omega)
                rw [if_neg hm] at R
                clear A1 A2 A3 H4 T0 T2 hm
                go_wp2_with fail
                refine (R.out _).mono ?_
                rintro e v ⟨rfl, rfl⟩
                go_wp2
                go_ret
                exact ⟨rfl, hw⟩

/-! ### THE ROW's STEP: WRITTEN OUT: LEAVE IT -/
set_option maxRecDepth 100000 in
theorem lifted (os : Os) (started : os.Started) (H : Type) (enc : TypeId × Value → H) :
    ReturnsInHanded {} Try.checked os 3 .any (Rows.gateSaysSpec.pre6 enc Try.prog Try.f3 Rows.gateSaysRow.domain false) (Rows.gateSaysSpec.post enc Try.prog Try.f3 false true false false) := by
  refine returnsInHanded_of_change (C := Try.checked) own started (by kernel_rfl) Try.func3
    (ChangeSpec.witness6 (enc := enc) (C := Try.checked) false ⟨#[], #[.int .i64 0, .int .i64 0, .int .i64 0, .int .i64 0, .int .i64 0], []⟩ 8 (by kernel_rfl) (by kernel_rfl) (by kernel_rfl) (by kernel_rfl)) ?_
  intro W base args ds gs before hval0 hW hcnd _
  have hval : ∀ (j : Nat) t v, Try.f3.params[j]? = some t → args[j]? = some v → Value.okWide Try.prog W .any base t v := hval0
  have hW' := hW
  obtain ⟨p, q, hA0, hV, rfl, hfz, hnd⟩ := hW
  have hA : DataW.TrodAll enc Try.prog W 0 (fun _ => true) true Try.f3.params.toList args.toList ds p := hA0
  rw [Try.params3] at hA hval
  obtain ⟨v0, vs0, d0, ds0, p0, q0, hargs, rfl, rfl, h0, r0⟩ := trodAll_cons hA
  obtain ⟨v1, vs1, d1, ds1, p1, q1, rfl, rfl, rfl, h1, r1⟩ := trodAll_cons r0
  obtain ⟨v2, vs2, d2, ds2, p2, q2, rfl, rfl, rfl, h2, r2⟩ := trodAll_cons r1
  obtain ⟨v3, vs3, d3, ds3, p3, q3, rfl, rfl, rfl, h3, r3⟩ := trodAll_cons r2
  obtain ⟨v4, vs4, d4, ds4, p4, q4, rfl, rfl, rfl, h4, r4⟩ := trodAll_cons r3
  obtain ⟨rfl, rfl, rfl⟩ := trodAll_nil r4
  obtain rfl : args = #[v0, v1, v2, v3, v4] := by cases args; simp_all
  obtain ⟨rfl, rfl⟩ := trodVars_none hV
  obtain ⟨a0, rfl, rfl, rfl, w0⟩ := open_int Try.underlying3 (hval 0 3 v0 rfl rfl) h0
  obtain ⟨a1, rfl, rfl, rfl, w1⟩ := open_int Try.underlying3 (hval 1 3 v1 rfl rfl) h1
  obtain ⟨a2, rfl, rfl, rfl, w2⟩ := open_int Try.underlying3 (hval 2 3 v2 rfl rfl) h2
  obtain ⟨a3, rfl, rfl, rfl, w3⟩ := open_int Try.underlying3 (hval 3 3 v3 rfl rfl) h3
  obtain ⟨a4, rfl, rfl, rfl, w4⟩ := open_int Try.underlying3 (hval 4 3 v4 rfl rfl) h4
  clear hA0 hval0
  simp only [List.append_nil] at hW'
  refine (walk a0 a1 a2 a3 a4 w0 w1 w2 w3 w4 W).mono fun e W' ⟨he, hg⟩ => ?_
  subst he
  exact ⟨_, rfl, _, _, _, [], _, [], hW', (trodAll_cons_mk (shut_bool Try.underlying4 _) trodAll_mk0), (trodAll_cons_mk (shut_int Try.underlying3 w0) (trodAll_cons_mk (shut_int Try.underlying3 w1) (trodAll_cons_mk (shut_int Try.underlying3 w2) (trodAll_cons_mk (shut_int Try.underlying3 w3) (trodAll_cons_mk (shut_int Try.underlying3 w4) trodAll_mk0))))), rfl, hg.frame _, fun h => by cases h⟩

theorem over : Rows.gateSaysRow.holds Try.pinned (OpenSpec.ofChange Rows.gateSaysSpec) :=
  OpenClaim.holds_of_wide 3 Try.f3 rfl rfl rfl rfl rfl rfl rfl ⟨rfl, rfl, rfl, rfl, rfl⟩ rfl rfl rfl rfl rfl (by kernel_rfl) Try.func3 (by kernel_rfl)
    (of_decide_eq_true (by kernel_rfl)) (by unfold Func.isWrapper; first | (rw [if_pos (by decide +kernel)]; kernel_rfl) | (rw [if_neg (by decide +kernel)]; exact ⟨rfl, rfl⟩))
    (fun os started H enc _ => lifted os started H enc)

/-- ████ THE STATEMENT ████ -/
theorem proved : Rows.GateSaysSaid :=
  over
#print axioms proved
end Go.Proofs.Ytelehdnjioocmaa.gateSays
