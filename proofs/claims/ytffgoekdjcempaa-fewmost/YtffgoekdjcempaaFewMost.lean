/-
  'Rows.FewMostSaid' is proved (Boyer, Moore): an element that is more than half of all is found, and has the one counter of a sketch with one counter; in whatever order they stand. No condition.
-/
import Derived.Test.YtffgoekdjcempaaRows
import Derived.Test.YtffgoekdjcempaaShapes
import Derived.Test.YtffgoekdjcempaaFewHeard
import Derived.Test.YtffgoekdjcempaaFewMostP
import Derived.Test.YtffgoekdjcempaaWithin
import Derived.Test.YtffgoekdjcempaaLit
import Derived.Test.YtffgoekdjcempaaConcatInts
import Derived.Test.YtffgoekdjcempaaSubSlice
import Derived.Test.YtffgoekdjcempaaStepRows
import Derived.Deep.DeepCutAuto
import Derived.Deep.LoopGhost
import Derived.BigQuiet
import Derived.Deep.QuietTactic
import Derived.RegionTactic
import Derived.BigRegion
import Derived.OwnWalk
import Derived.WalkKit
import Derived.ProofKit
import Derived.OpenShut
import Derived.ShutString
import Derived.ChangeOld
import Derived.Below
namespace Go.Proofs.Ytffgoekdjcempaa.fewMost
open Go.ChangeShapes Go.WideShapes Go.ChangeAt Go.RowKit
open Go.ChangeMaps (open_string shut_string)
set_option linter.unusedVariables false

theorem own : ownKnob Try.prog.godebug = none := by kernel_rfl
theorem laidOut : laidOutB Try.prog = true := by kernel_rfl

--BEATS
open Few
theorem most_lit : mostN [4, 4, 9] = 4 ∧ mostB [4, 4, 9] = true := by decide
theorem most_same {l m : List Int} (hc : ∀ x, l.count x = m.count x) (hl : l.length = m.length) : mostL l = mostL m := by
  have hm : ∀ x, maj l x = maj m x := fun x => by unfold maj; rw [hc, hl]
  cases h : mostL l with
  | some x =>
    have h1 : maj l x = true := List.find?_some h
    rw [mostL_of (by rw [← hm]; exact h1)]
  | none =>
    refine (List.find?_eq_none.2 fun y hy h2 => ?_).symm
    rw [← hm] at h2
    exact absurd h2 (List.find?_eq_none.1 h y (maj_mem h2))
theorem most_turned {l : List Int} {t : Nat} : mostL (l.drop t ++ l.take t) = mostL l := by
  refine most_same (fun x => ?_) (by rw [List.length_append, List.length_drop, List.length_take]; omega)
  conv => rhs; rw [← List.take_append_drop t l, List.count_append]
  rw [List.count_append, Nat.add_comm]
def units (l : List Int) : List (Int × Int) := l.map (fun x => (x, 1))
theorem units_tot : ∀ l : List Int, tot (units l) = l.length
  | [] => rfl
  | x :: l => by
    have := units_tot l
    unfold units at this ⊢
    rw [List.map_cons, tot_cons, this, List.length_cons]; simp only; omega
theorem units_oft (z : Int) : ∀ l : List Int, oft z (units l) = l.count z
  | [] => rfl
  | x :: l => by
    have := units_oft z l
    unfold units at this ⊢
    rw [List.map_cons, oft, this, List.count_cons]
    simp only
    by_cases h : x = z
    · rw [if_pos h, if_pos (by simpa using h)]; omega
    · rw [if_neg h, if_neg (by simpa using h)]; omega
def someL (l : List Int) : List Int := (l.take 40).map (fun x => withI x 3)
theorem size_intM (w : World) : (sizeOf 3).run Try.prog w = .ok 1 w := by kernel_rfl
theorem elem_intM : Try.prog.elem 22 = 3 := by kernel_rfl
theorem tab_heldM {W : World} {X n : Nat} {cs : Array Value} {R : List (List Value)} {t : TypeId} (hX : W.heap[X]? = some (.cells cs t (0, 0))) (hr : ∀ r ∈ R, r.length = 1) (hc : cs.toList = R.flatten := by rfl) (hn : R.length = n := by rfl) (hm : n ≤ maxLen := by decide) : Tab W (some ⟨X, 0, none⟩) n n 1 R := by
  refine ⟨hn, Nat.le_refl _, hm, fun h => (by cases h), fun _ => ⟨X, 0, rfl, (Array.getElem?_eq_some_iff.1 hX).1, fun i r hri j u hu => ?_⟩⟩
  have h := flatten_get hr hri hu
  rw [← hc] at h
  rw [Nat.zero_add]
  exact cell_blk hX (by rw [← Array.getElem?_toList]; exact h)
theorem own_intsM {w : World} {base : Nat} {e : TypeId} {v : Value} {l : List Int} {K : Nat} (h : Own w base e 1 v (l.map iC)) (hl : l.length = K) : ∃ a cap, v = .slice a K cap ∧ Tab w a K cap 1 (l.map iC) := by
  obtain ⟨a, cap, rfl, T⟩ := h.tab
  rw [List.length_map, hl] at T ⊢
  exact ⟨a, cap, rfl, T⟩
theorem drew_belowM {w w' : World} (h : Below w.heap.size w.drew w') : Below w.heap.size w w' := (Below.refl _ _).drew.trans h

set_option maxRecDepth 100000 in
set_option maxHeartbeats 12000000 in
theorem walk (x0 : Sl Int) (x1 : Int) (w : World) (t0 : Tab w x0.a x0.len x0.cap 1 (x0.l.map iC)) (b0 : x0.len * 8 ≤ 140737488351232) (o0 : ∀ z ∈ x0.l, wfI z) (w1 : (Lit.int .i64 x1).wf = true) :
    Calls Try.prog 7 #[.slice x0.a x0.len x0.cap, .int .i64 x1] w fun e w' => e = .returned (.bool true) ∧ Below w.heap.size w w' := by
  obtain ⟨a, len, cap, l⟩ := x0
  simp only at t0 o0 b0
  have hcap : cap ≤ 9223372036854775807 := by have h := t0.hmax; unfold maxLen at h; simpa using h
  have hle : len ≤ cap := t0.hle
  have hl : l.length = len := by have h := t0.hlen; rw [List.length_map] at h; exact h
  obtain ⟨n, hnn⟩ : ∃ n, min len 40 = n := ⟨_, rfl⟩
  have hn1 : n ≤ len := by omega
  have hn2 : n ≤ 40 := by omega
  have rU := run_upto 22 3 1 Try.underlying22 elem_intM size_intM a len cap n (by omega)
  have hVl : (someL l).length = n := by unfold someL; rw [List.length_map, List.length_take, hl]; omega
  have hVg : ∀ k x, k < n → l[k]? = some x → (someL l)[k]? = some (withI x 3) := fun k x hk hx => by
    unfold someL
    rw [List.getElem?_map, List.getElem?_take, if_pos (by omega), hx]; rfl
  obtain ⟨V, hV⟩ : ∃ V, someL l = V := ⟨_, rfl⟩
  rw [hV] at hVl hVg
  have HVL := Lib.hid hVl
  have HVG := Lib.hid hVg
  have T0 := Lib.hid t0
  have O0 := Lib.hid o0
  have HL := Lib.hid hl
  have HB0 := Lib.hid (show Below w.heap.size w (w.alloc (.cells #[.int .i64 4, .int .i64 4, .int .i64 9] 3)) from (Below.refl _ _).alloc (Nat.le_refl _) _)
  have CM := fewMost_any (some ⟨w.heap.size, 0, none⟩) 3 3 [4, 4, 9] _ (tab_lit w 3 1 3 ([(4 : Int), 4, 9].map iC) #[.int .i64 4, .int .i64 4, .int .i64 9] rfl rfl (rows_of iC_len _) (by decide) _ rfl) (by decide)
  rw [most_lit.1, most_lit.2] at CM
  replace CM := Lib.hid CM
  have d1 := withI_bd x1 ((n : Int) + 1) (by omega)
  have HW1 := Lib.hid (fun W => within_int x1 ((n : Int) + 1) W (wf_i64 w1) (by omega) (by omega))
  generalize withI x1 ((n : Int) + 1) = K1 at *
  obtain ⟨tt, rfl⟩ := Int.eq_ofNat_of_zero_le d1.1
  have htt : tt ≤ n := by omega
  clear t0 o0 b0 hl hVl hVg hV d1 w1
  go_enter Try.func7, Try.ntmps7
  go_wp2_with fail
  refine CM.out.mono ?_
  rintro e v1 ⟨rfl, hv1⟩
  rw [hv1]
  clear hv1 CM
  obtain ⟨v0, hv0⟩ : ∃ v, w.alloc (.cells #[.int .i64 4, .int .i64 4, .int .i64 9] 3) = v := ⟨_, rfl⟩
  rw [hv0] at HB0
  have HV0 := Lib.hid hv0
  clear hv0
  go_upto_region 5 with fail
  rw [HV0.out]
  clear HV0
  go_cut [42, 43, 44] (fun s t i wx => s = .slice a n cap ∧ t = .int .i64 n ∧ i = .int .i64 0 ∧ wx = v0)
  case first =>
    by_cases h9 : len ≤ 40
    · obtain rfl : n = len := by omega
      clear hnn
      go_wp2_with fail
      all_goals
        try omega
      go_meet
      case rel => exact ⟨congrArg (fun t => Value.slice a t cap) (by omega), congrArg (Value.int .i64) (by omega), rfl, rfl⟩
    · obtain rfl : n = 40 := by omega
      have h9' : 40 < len := by omega
      clear hnn h9
      go_wp2_with fail
      all_goals
        try omega
      go_meet
      case rel => exact ⟨congrArg (fun t => Value.slice a t cap) (by omega), congrArg (Value.int .i64) (by omega), rfl, rfl⟩
  case rest =>
  obtain ⟨rfl, rfl, rfl, hwc⟩ := hcut
  have hwc := hwc.symm
  subst hwc
  clear rU hnn
  go_wp2_with fail
  go_loopg [8, 44] n (fun g v i wr => ∃ (k : Nat), k + g = n ∧ i = .int .i64 k ∧ Hid (Own wr v0.heap.size 3 1 v ((V.take k).map iC)) ∧ Hid (Below v0.heap.size v0 wr))
  case atStart => exact ⟨0, by omega, rfl, Lib.hid (Own.nil _ _ _ _), Lib.hid (Below.refl _ _)⟩
  case round =>
    obtain ⟨k, hk0, rfl, HO, HW⟩ := hrel
    have HJ := Lib.hid hk0
    have hk : k ≤ n := by omega
    clear hk0
    have HBW := Lib.hid (below_on HB0.out HW.out)
    by_cases hlt : k < n
    · obtain ⟨x, hx⟩ : ∃ x, l[k]? = some x := ⟨_, List.getElem?_eq_getElem (by rw [HL.out]; omega)⟩
      obtain ⟨b1, o1, ha, hbs, p0⟩ := T0.out.one HBW.out (map_get hx)
      have hvk := HVG.out k x hlt hx
      have HWX := Lib.hid (fun W => within_int x 3 W (wf_i64 (O0.out x (List.mem_of_getElem? hx))) (by omega) (by omega))
      have HTK : Hid (V.take (k + 1) = V.take k ++ [withI x 3]) := Lib.hid (by rw [List.take_add_one, hvk, Option.toList_some])
      generalize withI x 3 = y at *
      have HTL : Hid (((V.take k).map iC).length ≤ 40) := Lib.hid (by rw [List.length_map, List.length_take]; omega)
      have HSZ := Lib.hid HW.out.size
      subst ha
      clear hx hvk
      obtain ⟨wo, hwo⟩ : ∃ wo, wo = wr := ⟨_, rfl⟩
      subst hwo
      go_wp2_with fail
      refine (HWX.out _).mono ?_
      rintro e w5 ⟨rfl, hw5⟩
      rw [← hw5]
      clear hw5 HWX
      go_wp2_with (at_builtin; refine wpList_append_rows _ rfl _ _ 22 rfl v0.heap.size 3 _ 1 8 Try.underlying22 info_int rfl (by decide) _ ((V.take k).map iC) rfl (HO.out.alloc _) ⟨wo.heap.size, 0, none⟩ 1 1 [iC y] rfl rfl (by simp [iC]) (one_row _ (iC y) 3 _ (by simp)) (by simp [iC, Value.oneCell']) (by have := HTL.out; omega) (by decide) (by have := HSZ.out; simp; omega) ?_; intro v' w6 hO6 hg6)
      have hu := (HO.out.alloc (.cells #[.int .i64 y] 3)).under (HW.out.alloc HW.out.size _) (Nat.le_refl _) (by have := HSZ.out; simp; omega) hg6
      rw [← List.map_singleton (f := iC) (a := y), ← List.map_append, ← HTK.out] at hO6
      have HO6 := Lib.hid hO6
      have HU := Lib.hid hu
      clear hO6 hu hg6 p0
      go_wp2_with fail
      go_roundg (n - (k + 1))
      case measure => have := HJ.out; omega
      case rel => exact ⟨k + 1, by omega, by go_num, HO6, HU⟩
    · obtain rfl : k = n := by omega
      rw [List.take_of_length_le (by rw [HVL.out]; exact Nat.le_refl _)] at HO
      obtain ⟨aV, cV, hv, hTV⟩ := own_intsM HO.out HVL.out
      have TV := Lib.hid hTV
      have hle0 := hTV.hle
      have hcV : cV ≤ 9223372036854775807 := by have h := hTV.hmax; unfold maxLen at h; simpa using h
      have C1 := Lib.hid (fewMost_any aV k cV V wr hTV hn2)
      subst hv
      clear hTV
      obtain ⟨v1, hv1⟩ : ∃ v1, v1 = wr := ⟨_, rfl⟩
      subst hv1
      go_wp2_with fail
      refine (HW1.out _).mono ?_
      rintro e w5 ⟨rfl, hw5⟩
      rw [← hw5]
      clear hw5 HW1
      go_wp2_with fail
      refine C1.out.mono ?_
      rintro e w5 ⟨rfl, hw5⟩
      rw [hw5]
      clear hw5 C1
      go_upto_region 12 with fail
      have rU1 := run_from 22 3 1 Try.underlying22 elem_intM size_intM aV k cV tt htt
      have rU2 := run_upto 22 3 1 Try.underlying22 elem_intM size_intM aV k cV tt (by omega)
      have HT3 := Lib.hid (TV.out.from_ tt htt)
      have HT4 := Lib.hid (TV.out.upto_ tt htt)
      have HCT : Hid (∀ (W : World) (X : Nat), Below v1.heap.size v1 W → W.heap[X]? = some (.cells #[.slice (fromA aV cV tt 1) (k - tt) (cV - tt), .slice aV tt cV] 22 (0, 0)) → Calls Try.prog 36 #[.slice (some ⟨X, 0, none⟩) 2 2] W (RetRows W 3 1 ((V.drop tt ++ V.take tt).map iC))) := Lib.hid (by
        intro W X hb hX
        have hS : Tab W (some ⟨X, 0, none⟩) 2 2 1 (([⟨fromA aV cV tt 1, k - tt, cV - tt, V.drop tt⟩, ⟨aV, tt, cV, V.take tt⟩] : List (Sl Int)).map slC) := tab_heldM hX (by intro r hr; obtain ⟨y, _, rfl⟩ := List.mem_map.1 hr; rfl)
        have h := concat_ints _ 2 2 _ W hS (by
          intro s hs
          rcases List.mem_cons.1 hs with rfl | hs
          · have := HT3.out.below hb; rw [← List.map_drop] at this; exact this
          · obtain rfl := List.mem_singleton.1 hs
            have := HT4.out.below hb; rw [← List.map_take] at this; exact this) (by simp; omega)
        rw [show (([⟨fromA aV cV tt 1, k - tt, cV - tt, V.drop tt⟩, ⟨aV, tt, cV, V.take tt⟩] : List (Sl Int)).flatMap (·.l)) = V.drop tt ++ V.take tt by simp] at h
        exact h)
      have HX1 : Hid ((v1.alloc (.cells #[.slice (fromA aV cV tt 1) (k - tt) (cV - tt), .slice aV tt cV] 22)).heap[v1.heap.size]? = some (.cells #[.slice (fromA aV cV tt 1) (k - tt) (cV - tt), .slice aV tt cV] 22 (0, 0))) := Lib.hid (MapKept.heap_alloc v1 _).1
      have HLt : Hid ((V.drop tt ++ V.take tt).length = k) := Lib.hid (by rw [List.length_append, List.length_drop, List.length_take, HVL.out]; omega)
      have HFM : Hid (∀ (W : World) (q : Option Addr) (c : Nat), Tab W q k c 1 ((V.drop tt ++ V.take tt).map iC) → Calls Try.prog 35 #[.slice q k c] W fun e w' => e = .returned (.tuple #[.int .i64 (mostN V), .bool (mostB V), .int .i64 0]) ∧ w' = W) := Lib.hid (fun W q c hT => by
        have h := fewMost_any q k c (V.drop tt ++ V.take tt) W hT hn2
        unfold mostN mostB at h ⊢
        rw [most_turned] at h
        exact h)
      generalize V.drop tt ++ V.take tt = QQ at *
      obtain ⟨mn, hmn⟩ : ∃ m, mostN V = m := ⟨_, rfl⟩
      obtain ⟨mb, hmb⟩ : ∃ m, mostB V = m := ⟨_, rfl⟩
      rw [hmn, hmb] at HFM ⊢
      have HMN := Lib.hid hmn
      have HMB := Lib.hid hmb
      clear hmn hmb HT3 HT4 hle0
      go_cut [14, 15, 16] (fun p q r wx => p = .int .i64 mn ∧ q = .bool mb ∧ r = .int .i64 0 ∧ Hid (Below v1.heap.size v1 wx))
      case first =>
        go_wp2_with fail
        go_region_with (first | (go_at_call 36; refine Calls.mono (HCT.out _ _ ?_ HX1.out) ?_; (first | exact ((Below.refl _ _).alloc (Nat.le_refl _) _).drew | exact (Below.refl _ _).alloc (Nat.le_refl _) _); rintro e w5 ⟨q5, rfl, hO5, hb5⟩; obtain ⟨a5, c5, rfl, hT5⟩ := own_intsM hO5 HLt.out) | (go_at_call 35; refine Calls.mono (HFM.out _ _ _ ?_) ?_; (first | exact hT5 | exact hT5.below ((Below.refl _ _).drew)); rintro e w6 ⟨rfl, rfl⟩))
        all_goals
          go_wp2_with fail
          have hb5w := below_on (((Below.refl v1.heap.size v1).alloc (Nat.le_refl _) _).drew) hb5
          go_meet
          case rel =>
            first
            | exact ⟨rfl, rfl, rfl, Lib.hid hb5w⟩
            | exact ⟨rfl, rfl, rfl, Lib.hid hb5w.drew⟩
      case rest =>
      obtain ⟨rfl, rfl, rfl, HBD⟩ := hcut
      clear rU1 rU2 HX1 HCT HFM HLt
      have HB2 := Lib.hid (below_on HBW.out HBD.out)
      replace TV := Lib.hid (TV.out.below HBD.out)
      obtain ⟨v2, hv2⟩ : ∃ v2, v2 = wc := ⟨_, rfl⟩
      subst hv2
      have t1 : (mb != mb) = false := by simp
      have t2 : (mn != mn) = false := by simp
      clear HBD HO HW HBW
      go_wp2_with fail
      go_loopg [17, 96] k (fun g v i wr => ∃ (j : Nat), j + g = k ∧ i = .int .i64 j ∧ Hid (Own wr v2.heap.size 43 2 v ((units (V.take j)).map iiC)) ∧ Hid (Below v2.heap.size v2 wr))
      case atStart => exact ⟨0, by omega, rfl, Lib.hid (Own.nil _ _ _ _), Lib.hid (Below.refl _ _)⟩
      case round =>
        obtain ⟨j, hj0, rfl, HO, HW⟩ := hrel
        have HJ2 := Lib.hid hj0
        have hj : j ≤ k := by omega
        clear hj0
        have HBW := Lib.hid (below_on HB2.out HW.out)
        by_cases hlt2 : j < k
        · obtain ⟨y, hy⟩ : ∃ x, V[j]? = some x := ⟨_, List.getElem?_eq_getElem (by rw [HVL.out]; exact hlt2)⟩
          obtain ⟨b1, o1, ha, hbs, p0⟩ := TV.out.one HW.out (map_get hy)
          have HTK : Hid (units (V.take (j + 1)) = units (V.take j) ++ [(y, 1)]) := Lib.hid (by unfold units; rw [List.take_add_one, hy, Option.toList_some, List.map_append]; rfl)
          have HTL : Hid (((units (V.take j)).map iiC).length ≤ 40) := Lib.hid (by unfold units; rw [List.length_map, List.length_map, List.length_take]; omega)
          have HSZ := Lib.hid HW.out.size
          subst ha
          clear hy
          obtain ⟨wo, hwo⟩ : ∃ wo, wo = wr := ⟨_, rfl⟩
          subst hwo
          go_wp2_with (at_builtin; refine wpList_append_rows _ rfl _ _ 37 rfl v2.heap.size 43 _ 2 16 Try.underlying37 info_counter rfl (by decide) _ ((units (V.take j)).map iiC) rfl (HO.out.alloc _) ⟨wo.heap.size, 0, none⟩ 1 1 [iiC (y, 1)] rfl rfl (by simp [iiC]) (one_row _ (iiC (y, 1)) 43 _ (by simp)) (by simp [iiC, Value.oneCell']) (by have := HTL.out; omega) (by decide) (by have := HSZ.out; simp; omega) ?_; intro v' w6 hO6 hg6)
          have hu := (HO.out.alloc (.cells #[.int .i64 y, .int .i64 1] 43)).under (HW.out.alloc HW.out.size _) (Nat.le_refl _) (by have := HSZ.out; simp; omega) hg6
          rw [← List.map_singleton (f := iiC) (a := (y, 1)), ← List.map_append, ← HTK.out] at hO6
          have HO6 := Lib.hid hO6
          have HU := Lib.hid hu
          clear hO6 hu hg6 p0
          go_wp2_with fail
          go_roundg (k - (j + 1))
          case measure => have := HJ2.out; omega
          case rel => exact ⟨j + 1, by omega, by go_num, HO6, HU⟩
        · obtain rfl : j = k := by omega
          rw [List.take_of_length_le (by rw [HVL.out]; exact Nat.le_refl _)] at HO
          have hul : (units V).length = j := by unfold units; rw [List.length_map, HVL.out]
          obtain ⟨aU, cU, hv, hTU⟩ := own_ctrs HO.out hul
          have HH := Lib.hid (heard_any 1 aU j cU (units V) wr hTU (by omega) (by decide) (by decide) (fun p hp => by obtain ⟨z, _, rfl⟩ := List.mem_map.1 hp; simp) (by rw [units_tot, HVL.out]; omega))
          subst hv
          clear hTU hul
          go_wp2_with fail
          refine HH.out.mono ?_
          rintro e v6 ⟨L, C, q, rfl, hN, hO, hb⟩
          obtain ⟨nC, hnC⟩ : ∃ n, C.length = n := ⟨_, rfl⟩
          obtain ⟨aC, cC, rfl, hTC⟩ := own_ctrs hO hnC
          have hz := FV.new (K := 1) (L := L) hTC
          have HB7 := Lib.hid (below_on (below_on HBW.out hb) hz.2)
          obtain ⟨v7, hv7⟩ : ∃ v, v6.alloc (.cells #[.int .i64 1, .int .i64 L, .slice aC nC cC] 39) = v := ⟨_, rfl⟩
          rw [hv7] at HB7 hz
          obtain ⟨F, hF⟩ : ∃ Y, v6.heap.size = Y := ⟨_, rfl⟩
          rw [hF] at hz
          have SF := Lib.hid hz.1
          have HVX := Lib.hid (And.intro hv7 hF)
          have HN := Lib.hid hN
          have HNC := Lib.hid hnC
          clear hz hb hO hTC hv7 hF hN hnC HH
          go_upto_region 22 with fail
          rw [HVX.out.1, HVX.out.2]
          clear HVX
          obtain ⟨c0, d0, e0⟩ := SF.out.cells
          cases mb
          · go_wp2_with fail
            go_ret
            exact ⟨rfl, HB7.out⟩
          · have hms : mostL V = some mn := by
              have h1 := HMB.out
              have h2 := HMN.out
              unfold mostB at h1
              unfold mostN at h2
              cases h3 : mostL V with
              | none => rw [h3] at h1; cases h1
              | some z => rw [h3] at h2; rw [← h2]; rfl
            have hmj : maj V mn = true := List.find?_some hms
            obtain ⟨cn, hC⟩ := near_most (x := mn) HN.out (by
              rw [units_tot, units_oft]
              unfold maj at hmj
              rw [decide_eq_true_iff] at hmj
              omega)
            obtain rfl : nC = 1 := by rw [← HNC.out, hC]; rfl
            obtain ⟨b1, o1, ha, hbs, p0, p1⟩ := SF.out.2.two (Below.refl _ _) (map_get (i := 0) (y := (mn, cn)) (by rw [hC]; rfl))
            subst ha
            simp only [Nat.zero_mul, Nat.add_zero] at p0
            have tm : (mn == mn) = true := by simp
            clear hms hmj hC p1
            go_wp2_with fail
            go_ret
            exact ⟨rfl, HB7.out⟩

set_option maxRecDepth 100000 in
theorem lifted (os : Os) (started : os.Started) (H : Type) (enc : TypeId × Value → H) :
    ReturnsInHanded {} Try.checked os 7 .any (Rows.fewMostSpec.pre6 enc Try.prog Try.f7 Rows.fewMostRow.domain false) (Rows.fewMostSpec.post enc Try.prog Try.f7 false true false false) := by
  refine returnsInHanded_of_change_sized (C := Try.checked) own started (by kernel_rfl) Try.func7
    (ChangeSpec.witness6 (enc := enc) (C := Try.checked) false ⟨#[], #[.slice none 0 0, .int .i64 0], []⟩ 8 (by kernel_rfl) (by kernel_rfl) (by kernel_rfl) (by kernel_rfl)) ?_
  intro W base args ds gs before hval0 hW hcnd hsz0 _
  have hval : ∀ (j : Nat) t v, Try.f7.params[j]? = some t → args[j]? = some v → Value.okWide Try.prog W .any base t v := hval0
  have hW' := hW
  obtain ⟨p, q, hA0, hV, rfl, hfz, hnd⟩ := hW
  have hA : DataW.TrodAll enc Try.prog W 0 (fun _ => true) true Try.f7.params.toList args.toList ds p := hA0
  have hsz : (DataW.weightsEach Try.prog (Try.f7.params.toList ++ Rows.fewMostSpec.plain.varTypes Try.prog) (ds ++ gs)).all (· ≤ reachBytes) = true := hsz0
  rw [Try.params7] at hA hval hsz
  obtain ⟨v0, vs0, d0, ds0, p0, q0, hargs, rfl, rfl, h0, r0⟩ := trodAll_cons hA
  obtain ⟨v1, vs1, d1, ds1, p1, q1, rfl, rfl, rfl, h1, r1⟩ := trodAll_cons r0
  obtain ⟨rfl, rfl, rfl⟩ := trodAll_nil r1
  obtain rfl : args = #[v0, v1] := by cases args; simp_all
  obtain ⟨rfl, rfl⟩ := trodVars_none hV
  have k0 := h0
  have L0 := light_of hsz (j := 0) (t := 22) (d := d0) rfl rfl
  have lt0 : ∀ x ∈ p0, x.block < W.heap.size := by obtain ⟨m, hm⟩ := k0; exact DataW.trod_lt m _ _ _ hm
  obtain ⟨a0, len0, cap0, rfl⟩ := okWide_slice Try.underlying22 (hval 0 22 v0 rfl rfl)
  obtain ⟨n0, f0⟩ := trod_slice_of Try.underlying22 h0
  have F0 := And.intro f0 L0
  obtain ⟨x0, e0, t0, b0, o0⟩ := el_slice (w := W) (k := 1) iC wfI (by decide) Try.underlying22 (by kernel_rfl) (el_int Try.underlying3) (B := 8) (by kernel_rfl) _ _ _ F0.1 F0.2
  simp only [slC, List.cons.injEq, Value.slice.injEq, and_true] at e0
  obtain ⟨rfl, rfl, rfl⟩ := e0
  have k1 := h1
  have L1 := light_of hsz (j := 1) (t := 3) (d := d1) rfl rfl
  have lt1 : ∀ x ∈ p1, x.block < W.heap.size := by obtain ⟨m, hm⟩ := k1; exact DataW.trod_lt m _ _ _ hm
  obtain ⟨x1, rfl, rfl, rfl, w1⟩ := open_int Try.underlying3 (hval 1 3 v1 rfl rfl) h1
  clear hA0 hval0
  refine (walk x0 x1 W t0 b0 o0 w1).mono fun e W' ⟨he, hg⟩ => ?_
  subst he
  exact ⟨_, rfl, _, _, _, [], _, [], hW', trodAll_mk1 (shut_bool Try.underlying4 _), (trodAll_cons_mk (Below.trod laidOut (by kernel_rfl) (of_decide_eq_true (by kernel_rfl)) k0 hg lt0) (trodAll_cons_mk (Below.trod laidOut (by kernel_rfl) (of_decide_eq_true (by kernel_rfl)) k1 hg lt1) trodAll_mk0)), rfl, hg.frame _, fun h => by cases h⟩

theorem over : Rows.fewMostRow.holds Try.pinned (OpenSpec.ofChange Rows.fewMostSpec) :=
  OpenClaim.holds_of_wide 7 Try.f7 rfl rfl rfl rfl rfl rfl rfl ⟨rfl, rfl, rfl, rfl, rfl⟩ rfl rfl rfl rfl rfl (by kernel_rfl) Try.func7 (by kernel_rfl)
    (of_decide_eq_true (by kernel_rfl)) (by unfold Func.isWrapper; first | (rw [if_pos (by decide +kernel)]; kernel_rfl) | (rw [if_neg (by decide +kernel)]; exact ⟨rfl, rfl⟩))
    (fun os started H enc _ => lifted os started H enc)

/-- ████ THE STATEMENT ████ -/
theorem proved : Rows.FewMostSaid :=
  over
#print axioms proved
end Go.Proofs.Ytffgoekdjcempaa.fewMost
