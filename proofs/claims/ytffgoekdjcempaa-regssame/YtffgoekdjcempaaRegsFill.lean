/- The contract of the laws' own noughts (culkeep.noughts): registers to which random values were put. -/
import Derived.Test.YtffgoekdjcempaaRegsBig
import Derived.Test.YtffgoekdjcempaaDraw
import Derived.Test.YtffgoekdjcempaaSubSlice
import Derived.Deep.DeepCutAuto
namespace Go.Proofs.Ytffgoekdjcempaa
open Go.ChangeShapes Go.WideShapes Go.ChangeAt Go.RowKit
open Regs

namespace Regs
/-- how many registers -/
def numN (n : Int) : Nat := 2 ^ (withI n 5).toNat
def valsL (l : List Int) : List Int := (l.take 200).map (fun x => withI x 72057594037927936)
theorem numN_ok (n : Int) : lenR (numN n) = true := by
  have := withI_bd n 5 (by decide)
  unfold numN
  generalize withI n 5 = u at *
  have h : u = 0 ∨ u = 1 ∨ u = 2 ∨ u = 3 ∨ u = 4 := by omega
  rcases h with rfl | rfl | rfl | rfl | rfl <;> decide
theorem size_int1 (w : World) : (sizeOf 3).run Try.prog w = .ok 1 w := by kernel_rfl
theorem elem_int1 : Try.prog.elem 22 = 3 := by kernel_rfl
end Regs

set_option maxRecDepth 100000 in
set_option maxHeartbeats 4000000 in
theorem regsFill_any (n : Int) (a : Option Addr) (len cap : Nat) (l : List Int) (w : World) (hn : -9223372036854775808 ≤ n ∧ n ≤ 9223372036854775807) (h : Tab w a len cap 1 (l.map iC)) (hw : ∀ z ∈ l, wfI z) :
    Calls Try.prog 37 #[.int .i64 n, .slice a len cap] w fun e w' => ∃ v, e = .returned (.tuple #[v, .bool true]) ∧ Own w' w.heap.size 3 1 v ((regL (numN n) (valsL l)).map iC) ∧ Below w.heap.size w w' := by
  have hl := h.hlen
  rw [List.length_map] at hl
  have hm := h.hmax
  have hle := h.hle
  unfold maxLen at hm
  obtain ⟨m, hmm⟩ : ∃ m, min len 200 = m := ⟨_, rfl⟩
  have hm1 : m ≤ len := by omega
  have hm2 : m ≤ 200 := by omega
  have rU := run_upto 22 3 1 Try.underlying22 elem_int1 size_int1 a len cap m (by omega)
  have hVL : (valsL l).length = m := by unfold valsL; rw [List.length_map, List.length_take, hl]; omega
  have hVG : ∀ k x, k < m → l[k]? = some x → (valsL l)[k]? = some (withI x 72057594037927936) := fun k x hk hx => by
    unfold valsL
    rw [List.getElem?_map, List.getElem?_take, if_pos (by omega), hx]; rfl
  have hNN := numN_ok n
  have hNu : ∀ u, withI n 5 = u → numN n = 2 ^ u.toNat := fun u hu => by unfold numN; rw [hu]
  have hu := withI_bd n 5 (by decide)
  have HWN := Lib.hid (fun W => within_int n 5 W hn (by omega) (by omega))
  generalize withI n 5 = u at *
  have hN := hNu u rfl
  obtain ⟨V, hV⟩ : ∃ V, valsL l = V := ⟨_, rfl⟩
  rw [hV] at hVL hVG ⊢
  generalize numN n = N at *
  have HVL := Lib.hid hVL
  have HVG := Lib.hid hVG
  have HNN := Lib.hid hNN
  have HT := Lib.hid h
  have HL := Lib.hid hl
  have HW := Lib.hid hw
  have HI := Lib.hid (info_parts info_intR).choose_spec
  generalize (info_parts info_intR).choose = i0 at *
  have HNE := Lib.hid hN
  clear h hl hw hVL hVG hNN hNu hV hN
  go_enter Try.func37, Try.ntmps37
  go_upto_region 1 with fail
  go_cut [6] (fun v wx => v = .slice (some ⟨w.heap.size, 0, none⟩) N N ∧ Hid (Own wx w.heap.size 3 1 (.slice (some ⟨w.heap.size, 0, none⟩) N N) ((regL N []).map iC)) ∧ Hid (Below w.heap.size w wx))
  case first =>
    have hu5 : u = 0 ∨ u = 1 ∨ u = 2 ∨ u = 3 ∨ u = 4 := by omega
    clear hu hmm rU
    rcases hu5 with rfl | rfl | rfl | rfl | rfl
    all_goals
      obtain rfl := HNE.out
      go_wp2_with fail
      refine (HWN.out _).mono ?_
      rintro e w5 ⟨rfl, hw5⟩
      rw [← hw5]
      clear hw5
      go_wp2_with (at_make; first
        | (refine wpList_make_full _ rfl _ _ 22 rfl w.heap.size 3 i0 (.int .i64 0) 1 Try.underlying22 HI.out.1 HI.out.2.1 HI.out.2.2.1 _ _ _ _ 1 rfl rfl rfl rfl (by rw [HI.out.2.2.2]; omega) (by unfold maxLen; omega) (Nat.le_refl _) ?_; intro w3 hO3 hg3)
        | (refine wpList_make_full _ rfl _ _ 22 rfl w.heap.size 3 i0 (.int .i64 0) 1 Try.underlying22 HI.out.1 HI.out.2.1 HI.out.2.2.1 _ _ _ _ 2 rfl rfl rfl rfl (by rw [HI.out.2.2.2]; omega) (by unfold maxLen; omega) (Nat.le_refl _) ?_; intro w3 hO3 hg3)
        | (refine wpList_make_full _ rfl _ _ 22 rfl w.heap.size 3 i0 (.int .i64 0) 1 Try.underlying22 HI.out.1 HI.out.2.1 HI.out.2.2.1 _ _ _ _ 4 rfl rfl rfl rfl (by rw [HI.out.2.2.2]; omega) (by unfold maxLen; omega) (Nat.le_refl _) ?_; intro w3 hO3 hg3)
        | (refine wpList_make_full _ rfl _ _ 22 rfl w.heap.size 3 i0 (.int .i64 0) 1 Try.underlying22 HI.out.1 HI.out.2.1 HI.out.2.2.1 _ _ _ _ 8 rfl rfl rfl rfl (by rw [HI.out.2.2.2]; omega) (by unfold maxLen; omega) (Nat.le_refl _) ?_; intro w3 hO3 hg3)
        | (refine wpList_make_full _ rfl _ _ 22 rfl w.heap.size 3 i0 (.int .i64 0) 1 Try.underlying22 HI.out.1 HI.out.2.1 HI.out.2.2.1 _ _ _ _ 16 rfl rfl rfl rfl (by rw [HI.out.2.2.2]; omega) (by unfold maxLen; omega) (Nat.le_refl _) ?_; intro w3 hO3 hg3))
      have hO := Own.full hO3 (made_ints _)
      rw [← regL_nil] at hO
      have hb : Below w.heap.size w w3 := (Below.refl _ _).grown hg3 (Nat.le_refl _) (fun j hj => by cases hj)
      go_meet
      case rel => exact ⟨rfl, Lib.hid hO, Lib.hid hb⟩
  case rest =>
  obtain ⟨rfl, HO, HB⟩ := hcut
  clear HNE HWN hu
  go_upto_region 2 with fail
  obtain ⟨wb, hwb⟩ : ∃ wb, wb = wc := ⟨_, rfl⟩
  subst hwb
  go_cut [19, 20, 21] (fun s t i wx => s = .slice a m cap ∧ t = .int .i64 m ∧ i = .int .i64 0 ∧ wx = wb)
  case first =>
    by_cases h9 : len ≤ 200
    · obtain rfl : m = len := by omega
      clear hmm
      go_wp2_with fail
      all_goals
        try omega
      go_meet
      case rel => exact ⟨congrArg (fun t => Value.slice a t cap) (by omega), congrArg (Value.int .i64) (by omega), rfl, rfl⟩
    · obtain rfl : m = 200 := by omega
      have h9' : 200 < len := by omega
      clear hmm h9
      go_wp2_with fail
      all_goals
        try omega
      go_meet
      case rel => exact ⟨congrArg (fun t => Value.slice a t cap) (by omega), congrArg (Value.int .i64) (by omega), rfl, rfl⟩
  case rest =>
  obtain ⟨rfl, rfl, rfl, hwc⟩ := hcut
  have hwc := hwc.symm
  subst hwc
  clear rU hmm
  have HV0 : Hid (Own wb w.heap.size 3 1 (.slice (some ⟨w.heap.size, 0, none⟩) N N) ((regL N (V.take 0)).map iC)) := HO
  obtain ⟨v0, hv0⟩ : ∃ v, Value.slice (some ⟨w.heap.size, 0, none⟩) N N = v := ⟨_, rfl⟩
  rw [hv0] at HV0 ⊢
  clear HO hv0
  go_wp2_with fail
  go_loopg [6, 21] m (fun g v i wr => ∃ (k : Nat), k + g = m ∧ i = .int .i64 k ∧ Hid (Own wr w.heap.size 3 1 v ((regL N (V.take k)).map iC)) ∧ Hid (Below w.heap.size w wr))
  case atStart => exact ⟨0, by omega, rfl, HV0, HB⟩
  case round =>
    clear HV0 HB
    obtain ⟨k, hk0, rfl, HO, HB⟩ := hrel
    have HK := Lib.hid hk0
    have hk : k ≤ m := by omega
    clear hk0
    by_cases hlt : k < m
    · obtain ⟨x, hx⟩ : ∃ x, l[k]? = some x := ⟨_, List.getElem?_eq_getElem (by rw [HL.out]; omega)⟩
      obtain ⟨b1, o1, ha1, hbs1, c0⟩ := HT.out.one HB.out (map_get hx)
      have hvk := HVG.out k x hlt hx
      have HTK : Hid (V.take (k + 1) = V.take k ++ [withI x 72057594037927936]) := Lib.hid (by rw [List.take_add_one, hvk, Option.toList_some])
      have wx := wf_i64 (HW.out x (List.mem_of_getElem? hx))
      have bx := withI_bd x 72057594037927936 (by decide)
      have HD := Lib.hid (fun W => draw_int x W wx)
      obtain ⟨p, q, hv, hT⟩ := own_ints HO.out (regL_len N _)
      obtain ⟨E1, E2⟩ := putL_reg HNN.out (V.take k) bx.1 bx.2
      have HP := Lib.hid (fun W (hb : Below wr.heap.size wr W) => regsPut_any p N q (regL N (V.take k)) (withI x 72057594037927936) W (hT.below hb))
      rw [E1, E2, ← HTK.out] at HP
      generalize withI x 72057594037927936 = y at *
      subst ha1
      clear hx hvk wx bx E1 E2 HTK hT
      obtain ⟨wo, hwo⟩ : ∃ wo, wo = wr := ⟨_, rfl⟩
      subst hwo
      subst hv
      go_wp2_with fail
      refine (HD.out _).mono ?_
      rintro e w5 ⟨rfl, hw5⟩
      rw [← hw5]
      clear hw5 HD
      go_wp2_with fail
      refine (HP.out _ (Below.refl _ _)).mono ?_
      rintro e w6 ⟨v6, rfl, hO6, hb6⟩
      have HO6 := Lib.hid (hO6.base_le HB.out.size)
      have HB6 := Lib.hid (below_on HB.out hb6)
      clear hO6 hb6 HP c0
      go_wp2_with fail
      go_roundg (m - (k + 1))
      case measure => have := HK.out; omega
      case rel => exact ⟨k + 1, by omega, by go_num, HO6, HB6⟩
    · obtain rfl : k = m := by omega
      rw [List.take_of_length_le (by rw [HVL.out]; exact Nat.le_refl _)] at HO
      go_wp2
      go_ret2
      exact ⟨_, rfl, HO.out, HB.out⟩
end Go.Proofs.Ytffgoekdjcempaa
