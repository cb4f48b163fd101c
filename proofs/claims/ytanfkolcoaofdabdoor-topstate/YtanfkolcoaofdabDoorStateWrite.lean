/- The contract of the program's state.Write. -/
import Derived.Test.YtanfkolcoaofdabDoorTextMath
import Derived.Test.YtanfkolcoaofdabDoorMarkMath
import Derived.Test.YtanfkolcoaofdabDoorOwn
import Derived.Test.YtanfkolcoaofdabDoorShelf
import Derived.Laws.Concat
namespace Go.Proofs.YtanfkolcoaofdabDoor
open Go.ChangeShapes Go.WideShapes Go.ChangeAt Go.RowKit
open StateMath

namespace StateMath
def writeOf (L : List Pr) : ByteArray × Int := if check L = 0 then (if 200 < tlen L then (⟨#[]⟩, 2) else (textB L, 0)) else (⟨#[]⟩, check L)
theorem sum_mem (l : List Nat) (x : Nat) (h : x ∈ l) : x ≤ l.sum := by
  induction l with
  | nil => cases h
  | cons a t ih =>
    rw [List.sum_cons]
    rcases List.mem_cons.1 h with rfl | h
    · omega
    · have := ih h; omega
theorem tlen_mem (L : List Pr) (p : Pr) (h : p ∈ L) : p.1.size + p.2.size ≤ tlen L := by
  have h1 : p.1.size + p.2.size ≤ sumT L := sum_mem _ _ (List.mem_map.2 ⟨p, h, rfl⟩)
  have h2 : L.length ≠ 0 := by intro e; rw [List.length_eq_zero_iff.1 e] at h; cases h
  unfold tlen
  rw [if_neg h2]
  omega
end StateMath
theorem info_str : (Tryd.prog.info? 9).map (fun i => (i.zero, i.size, i.bytes)) = some (some (.string ByteArray.empty), 1, 16) := by kernel_rfl
theorem size_plus (a b : ByteArray) : (a ++ b).size = a.size + b.size := ByteArray.size_append
def pC (p : Pr) : List Value := [.string (StateMath.part p)]
theorem pC_len (p : Pr) : (pC p).length = 1 := rfl

set_option maxRecDepth 100000 in
set_option maxHeartbeats 2000000 in
theorem write_any (a : Option Addr) (len cap : Nat) (L : List Pr) (w : World) (h : Tab w a len cap 2 (L.map ssC)) (hok : ∀ p ∈ L, p.1.size ≤ 140737488351232 ∧ p.2.size ≤ 140737488351232) :
    Calls Tryd.prog 13 #[.slice a len cap] w fun e w' => e = .returned (.tuple #[.string (writeOf L).1, .int .i64 (writeOf L).2]) ∧ Below w.heap.size w w' := by
  have hmx := h.hmax
  have hle := h.hle
  have hl := h.hlen
  rw [List.length_map] at hl
  have HE : Hid (L.length = len) := hl
  unfold maxLen at hmx
  have HL := Lib.hid h.hlen
  have HT := Lib.hid h
  have HO := Lib.hid hok
  have HC := Lib.hid (check_any a len cap L w h (fun p hp => by have := hok p hp; unfold maxLen; omega))
  clear h hok hl
  by_cases hc : check L = 0
  · rw [hc] at HC
    have h40 : len ≤ 40 := by
      have h1 := ((check_zero_iff L).1 hc).1
      have h2 := HE.out
      omega
    have HL2 := Lib.hid (fun W (hb : Below w.heap.size w W) => textLen_any a len cap L W (HT.out.below hb) HO.out h40)
    by_cases h200 : 200 < tlen L
    · have HF : Hid (writeOf L = (⟨#[]⟩, 2)) := by show _ = _; unfold writeOf; rw [if_pos hc, if_pos h200]
      clear hc
      generalize tlen L = n at *
      go_enter Tryd.func13, Tryd.ntmps13
      go_wp2_with fail
      refine HC.out.mono ?_
      rintro e w1 ⟨rfl, hb1⟩
      go_wp2_with fail
      refine (HL2.out _ hb1).mono ?_
      rintro e w2 ⟨rfl, hb2⟩
      go_wp2
      go_ret2
      exact ⟨by rw [HF.out]; rfl, below_on hb1 hb2⟩
    · have HF : Hid (writeOf L = (textB L, 0)) := by show _ = _; unfold writeOf; rw [if_pos hc, if_neg h200]
      have HM := Lib.hid (fun p hp => Nat.le_trans (tlen_mem L p hp) (Nat.le_of_not_lt h200))
      have HJ0 : Hid ((Lib.join (L.map partL) [44]).length ≤ 200) := by rw [← textB_bytes, len_list, textB_size]; exact Lib.hid (by omega)
      have h200' : tlen L ≤ 200 := by omega
      clear hc h200
      generalize tlen L = n at *
      obtain ⟨i0, hi, hz0, hz1, hz2⟩ := info_parts info_str
      go_enter Tryd.func13, Tryd.ntmps13
      go_wp2_with fail
      refine HC.out.mono ?_
      rintro e w1 ⟨rfl, hb1⟩
      go_wp2_with fail
      refine (HL2.out _ hb1).mono ?_
      rintro e w2 ⟨rfl, hb2⟩
      have HB2 := Lib.hid (below_on hb1 hb2)
      clear hb1 hb2 HC HL2
      have hs2 := HB2.out.size
      go_wp2_with (first | (at_make; refine wpList_make_own _ rfl _ _ 64 rfl w.heap.size 9 i0 (.string ByteArray.empty) 1 Tryd.underlying64 hi hz0 hz1 _ _ _ len rfl rfl rfl (by rw [hz2]; omega) (by unfold maxLen; omega) hs2 ?_; intro w3 hO3 hg3))
      have HB3 : Below w.heap.size w w3 := HB2.out.grown hg3 hs2 (fun j hj => by cases hj)
      have HO3 := Lib.hid (Own.made hO3)
      clear hO3 hg3
      go_loopg [5, 21] len (fun g v i wr => ∃ k : Nat, k + g = len ∧ i = .int .i64 k ∧ Hid (Own wr w.heap.size 9 1 v ((L.take k).map pC)) ∧ Below w.heap.size w wr)
      case atStart => exact ⟨0, by omega, rfl, HO3, HB3⟩
      case round =>
        obtain ⟨k, hk0, rfl, HOw, hb⟩ := hrel
        have HJ := Lib.hid hk0
        have hk : k ≤ len := by omega
        clear hk0
        have hsz := hb.size
        by_cases hlt : k < len
        · obtain ⟨⟨pk, pv⟩, hp⟩ := some_get HL.out hlt
          obtain ⟨b, off, ha, hbs, h0, h2⟩ := HT.out.two hb (map_get hp)
          have hsm : pk.size + pv.size ≤ 200 := HM.out (pk, pv) (List.mem_of_getElem? hp)
          have HN : Hid ((L.take (k + 1)).map pC = (L.take k).map pC ++ [[.string (StateMath.part (pk, pv))]]) := by show _ = _; rw [List.take_add_one, hp]; simp [pC]
          have hO := HOw.out
          have hlen2 : ((L.take k).map pC).length ≤ k := by rw [List.length_map, List.length_take]; omega
          subst ha
          clear hp
          have a1 : ∀ w : World, (Op.stringOp .add pk ⟨#[61]⟩).run Tryd.prog w = .ok (.string (pk ++ ⟨#[61]⟩)) w := fun w => run_string_add_sum w _ _ (by show pk.size + 1 ≤ _; omega)
          have a2 : ∀ w : World, (Op.stringOp .add (pk ++ ⟨#[61]⟩) pv).run Tryd.prog w = .ok (.string (StateMath.part (pk, pv))) w := fun w => run_string_add_sum w _ _ (by rw [size_plus]; show pk.size + 1 + pv.size ≤ _; omega)
          generalize StateMath.part (pk, pv) = X at *
          generalize (L.take k).map pC = R at *
          go_wp2_with (first | (at_builtin; refine wpList_append_rows _ rfl _ _ 64 rfl w.heap.size 9 _ 1 16 Tryd.underlying64 info_str rfl (by decide) _ R rfl ((hO.alloc _).alloc _) ⟨wr.heap.size + 1, 0, none⟩ 1 1 [[.string X]] rfl rfl (by simp) (one_row _ _ _ _ (by simp)) (by simp [Value.oneCell']) (by omega) (by decide) (by simp; omega) ?_; intro v' w8 hO8 hg8))
          go_roundg (len - (k + 1))
          case measure => have := HJ.out; omega
          case rel => exact ⟨k + 1, by omega, by go_num, by rw [HN.out]; exact hO8, ((hO.alloc _).alloc _).under ((hb.alloc hsz _).alloc (by simp; omega) _) (Nat.le_refl _) (by simp; omega) hg8⟩
        · have hO := HOw.out
          rw [List.take_of_length_le (by have := HE.out; omega)] at hO
          obtain ⟨a5, cap5, e5, hT5⟩ := hO.tab
          rw [e5]
          clear e5 HOw hO
          rw [List.length_map] at hT5 ⊢
          have hle5 := hT5.hle
          by_cases h0 : L.length = 0
          · have HZ : Hid (textB L = ⟨#[]⟩) := by show _ = _; rw [List.length_eq_zero_iff.1 h0]; rfl
            rw [h0]
            have HJn := Lib.hid (strings_Join_none a5 cap5 ⟨#[44]⟩ wr)
            clear h0 hT5
            go_wp2_with fail
            refine HJn.out.mono ?_
            rintro e w9 ⟨rfl, rfl⟩
            go_wp2
            go_ret2
            exact ⟨by rw [HF.out, HZ.out]; rfl, hb⟩
          · obtain ⟨bk, o, ha5, hbk, hcl⟩ := hT5.hspot (by omega)
            have hq : (L.map StateMath.part).length = L.length := List.length_map ..
            have hx : (L.map StateMath.part).map (·.data.toList) = L.map partL := by rw [List.map_map]; exact List.map_congr_left (fun p _ => part_bytes p)
            have C := strings_Join bk o cap5 (L.map StateMath.part) ⟨#[44]⟩ wr
              (by
                intro j x hj
                rw [List.getElem?_map] at hj
                cases hg : L[j]? with
                | none => rw [hg] at hj; cases hj
                | some q =>
                  rw [hg] at hj
                  have e : StateMath.part q = x := Option.some.inj hj
                  subst e
                  have := hcl j [.string (StateMath.part q)] (by rw [List.getElem?_map, hg]; rfl) 0 _ rfl
                  rw [Nat.mul_one, Nat.add_zero] at this
                  exact this)
              hbk (by rw [hq, HE.out]; omega) (by rw [hq]; exact hle5) (by rw [hx]; have := HJ0.out; show (Lib.join (L.map partL) [44]).length ≤ _; omega)
            rw [hx, hq, ← ha5] at C
            have HTx : Hid ((⟨(Lib.join (L.map partL) [44]).toArray⟩ : ByteArray) = textB L) := by
              show _ = _
              rw [← textB_bytes]
            have C' := Lib.hid C
            clear C hx hcl ha5 hT5
            go_wp2_with fail
            refine C'.out.mono ?_
            rintro e w9 ⟨rfl, hb9⟩
            go_wp2
            go_ret2
            exact ⟨by rw [HF.out, ← HTx.out]; rfl, below_on hb hb9⟩
  · have HF : Hid (writeOf L = (⟨#[]⟩, check L)) := by show _ = _; unfold writeOf; rw [if_neg hc]
    have t : (check L != 0) = true := by simpa using hc
    generalize check L = c at *
    go_enter Tryd.func13, Tryd.ntmps13
    go_wp2_with fail
    refine HC.out.mono ?_
    rintro e w1 ⟨rfl, hb1⟩
    go_wp2
    go_ret2
    exact ⟨by rw [HF.out]; rfl, hb1⟩
end Go.Proofs.YtanfkolcoaofdabDoor
