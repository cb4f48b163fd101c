/- The contract of the document's own Text (package culref). -/
import Derived.Test.YtanfkolcoaofdabDoorRefState
import Derived.Laws.Concat
namespace Go.Proofs.YtanfkolcoaofdabDoor
open Go.ChangeShapes Go.WideShapes Go.ChangeAt Go.RowKit
open StateMath

theorem size_add (a b : ByteArray) : (a ++ b).size = a.size + b.size := ByteArray.size_append

set_option maxRecDepth 100000 in
set_option maxHeartbeats 1000000 in
theorem refText_any (a : Option Addr) (len cap : Nat) (L : List Pr) (w : World) (h : Tab w a len cap 2 (L.map ssC)) (hok : ∀ p ∈ L, p.1.size ≤ 140737488351232 ∧ p.2.size ≤ 140737488351232) (h40 : len ≤ 40) :
    Calls Tryd.prog 23 #[.slice a len cap] w fun e w' => e = .returned (.string (textB L)) ∧ Below w.heap.size w w' := by
  have hn := h.hmax
  have hle := h.hle
  have hl := h.hlen
  rw [List.length_map] at hl
  unfold maxLen at hn
  have HL := Lib.hid h.hlen
  have HE : Hid (L.length ≤ len) := Nat.le_of_eq hl
  have HT := Lib.hid h
  have HO := Lib.hid hok
  clear h hok hl
  go_enter Tryd.func23, Tryd.ntmps23
  go_wp2
  go_loopw [3, 8] (fun s i wr => ∃ (k : Nat) (acc : ByteArray), k ≤ len ∧ i = .int .i64 k ∧ s = .string acc ∧ acc.size ≤ k * 281474976710656 ∧ Below w.heap.size w wr ∧ Hid (textB (L.take k) = acc)) (fun _ i _ => len - (intOf i).toNat)
  case atStart => exact ⟨0, _, Nat.zero_le _, rfl, rfl, Nat.zero_le _, Below.refl _ _, rfl⟩
  case round =>
    obtain ⟨k, acc, hk, rfl, rfl, hacc, hb, HA⟩ := hrel
    have hsz := hb.size
    by_cases hlt : k < len
    · obtain ⟨⟨pk, pv⟩, hp⟩ := some_get HL.out hlt
      obtain ⟨b, off, ha, hbs, h0, h1⟩ := HT.out.two hb (map_get hp)
      have HP := Lib.hid (textB_take L k _ hp)
      have ok1 : pk.size ≤ 140737488351232 := (HO.out _ (List.mem_of_getElem? hp)).1
      have ok2 : pv.size ≤ 140737488351232 := (HO.out _ (List.mem_of_getElem? hp)).2
      rw [ha]
      clear hp ha
      have a1 : ∀ w : World, (Op.stringOp .add pk ⟨#[61]⟩).run Tryd.prog w = .ok (.string (pk ++ ⟨#[61]⟩)) w := fun w => run_string_add_sum w _ _ (by show pk.size + 1 ≤ _; omega)
      have a2 : ∀ w : World, (Op.stringOp .add (pk ++ ⟨#[61]⟩) pv).run Tryd.prog w = .ok (.string (StateMath.part (pk, pv))) w := fun w => run_string_add_sum w _ _ (by rw [size_add]; show pk.size + 1 + pv.size ≤ _; omega)
      have hps : (StateMath.part (pk, pv)).size ≤ 281474976710655 := by
        unfold StateMath.part
        rw [size_add, size_add]
        show pk.size + 1 + pv.size ≤ _
        omega
      have a3 : ∀ w : World, (Op.stringOp .add acc ⟨#[44]⟩).run Tryd.prog w = .ok (.string (acc ++ ⟨#[44]⟩)) w := fun w => run_string_add_sum w _ _ (by show acc.size + 1 ≤ _; omega)
      have a4 : ∀ w : World, (Op.stringOp .add (acc ++ ⟨#[44]⟩) (StateMath.part (pk, pv))).run Tryd.prog w = .ok (.string (acc ++ ⟨#[44]⟩ ++ StateMath.part (pk, pv))) w := fun w => run_string_add_sum w _ _ (by rw [size_add]; show acc.size + 1 + _ ≤ _; omega)
      have a5 : ∀ w : World, (Op.stringOp .add acc (StateMath.part (pk, pv))).run Tryd.prog w = .ok (.string (acc ++ StateMath.part (pk, pv))) w := fun w => run_string_add_sum w _ _ (by omega)
      have HS : Hid ((comma acc k ++ StateMath.part (pk, pv)).size ≤ (k + 1) * 281474976710656) := by
        show _ ≤ _
        rw [size_add]
        unfold comma
        split
        · omega
        · rw [size_add]; show acc.size + 1 + _ ≤ _; omega
      rw [HA.out] at HP
      have HB : Hid (textB (L.take (k + 1)) = comma acc k ++ StateMath.part (pk, pv)) := HP
      generalize StateMath.part (pk, pv) = pp at *
      clear hacc hps HP HA ok1 ok2
      by_cases hk0 : k = 0
      · have HC : Hid (comma acc k = acc) := if_pos hk0
        clear a3 a4
        subst hk0
        rw [Nat.zero_mul, Nat.add_zero] at h0 h1
        go_wp2
        go_roundw
        case rel => exact ⟨0 + 1, acc ++ pp, by omega, by go_num, rfl, by rw [← HC.out]; exact HS.out, hb.alloc hsz _, by rw [← HC.out]; exact HB⟩
        case measure => simp [intOf]; omega
      · have HC : Hid (comma acc k = acc ++ ⟨#[44]⟩) := if_neg hk0
        have hk1 : 0 < k := by omega
        clear a5 hk0
        go_wp2
        go_roundw
        case rel => exact ⟨k + 1, acc ++ ⟨#[44]⟩ ++ pp, by omega, by go_num, rfl, by rw [← HC.out]; exact HS.out, hb.alloc hsz _, by rw [← HC.out]; exact HB⟩
        case measure => simp [intOf]; omega
    · have hf : L.take k = L := List.take_of_length_le (by have := HE.out; omega)
      rw [hf] at HA
      clear hf
      go_wp2
      go_ret
      exact ⟨by rw [HA.out]; rfl, hb⟩

end Go.Proofs.YtanfkolcoaofdabDoor
