/- The contract of the program's state.textLen: how many bytes the text form has. -/
import Derived.Test.YtanfkolcoaofdabDoorStateCheck
namespace Go.Proofs.YtanfkolcoaofdabDoor
open Go.ChangeShapes Go.WideShapes Go.ChangeAt Go.RowKit
open StateMath

namespace StateMath
def sumT (L : List Pr) : Nat := (L.map (fun p => p.1.size + p.2.size)).sum
def tlen (L : List Pr) : Nat := if L.length = 0 then 0 else 2 * L.length - 1 + sumT L
theorem sumT_take (L : List Pr) (k : Nat) (p : Pr) (h : L[k]? = some p) : sumT (L.take (k + 1)) = sumT (L.take k) + (p.1.size + p.2.size) := by
  unfold sumT
  rw [List.take_add_one, h]
  simp
theorem sumT_le (L : List Pr) (B : Nat) (h : ∀ p ∈ L, p.1.size ≤ B ∧ p.2.size ≤ B) : sumT L ≤ L.length * (2 * B) := by
  induction L with
  | nil => simp [sumT]
  | cons p t ih =>
    have h1 := h p (List.mem_cons_self ..)
    have h2 := ih (fun q hq => h q (List.mem_cons_of_mem _ hq))
    unfold sumT at h2 ⊢
    rw [List.map_cons, List.sum_cons, List.length_cons, Nat.succ_mul]
    omega
end StateMath

set_option maxRecDepth 100000 in
set_option maxHeartbeats 1000000 in
theorem textLen_any (a : Option Addr) (len cap : Nat) (L : List Pr) (w : World) (h : Tab w a len cap 2 (L.map ssC)) (hok : ∀ p ∈ L, p.1.size ≤ 140737488351232 ∧ p.2.size ≤ 140737488351232) (h40 : len ≤ 40) :
    Calls Tryd.prog 34 #[.slice a len cap] w fun e w' => e = .returned (.int .i64 (tlen L : Nat)) ∧ Below w.heap.size w w' := by
  have hmx := h.hmax
  have hle := h.hle
  have hl := h.hlen
  rw [List.length_map] at hl
  have HE : Hid (L.length = len) := hl
  unfold maxLen at hmx
  have HL := Lib.hid h.hlen
  have HT := Lib.hid h
  have HO := Lib.hid hok
  clear h hl hok
  by_cases h0 : len = 0
  · have HF : Hid (tlen L = 0) := by show _ = _; unfold tlen; rw [if_pos (by rw [HE.out]; exact h0)]
    have t : ((len : Int) == 0) = true := by rw [h0]; rfl
    clear h0
    go_enter Tryd.func34, Tryd.ntmps34
    go_wp2
    go_ret
    exact ⟨by rw [HF.out]; rfl, Below.refl _ _⟩
  · have HF : Hid (tlen L = 2 * len - 1 + sumT L) := by show _ = _; unfold tlen; rw [if_neg (by rw [HE.out]; exact h0), HE.out]
    have t : ((len : Int) == 0) = false := by rw [beq_eq_false_iff_ne]; omega
    have h1 : 1 ≤ len := by omega
    clear h0
    go_enter Tryd.func34, Tryd.ntmps34
    go_wp2
    go_loopg [3, 15] len (fun g z i wr => ∃ k : Nat, k + g = len ∧ i = .int .i64 k ∧ z = .int .i64 (2 * (len : Int) - 1 + (sumT (L.take k) : Nat)) ∧ Below w.heap.size w wr)
    case atStart => exact ⟨0, by omega, rfl, by simp [sumT], Below.refl _ _⟩
    case round =>
      obtain ⟨k, hk0, rfl, rfl, hb⟩ := hrel
      have HJ := Lib.hid hk0
      have hk : k ≤ len := by omega
      clear hk0
      have hsz := hb.size
      have hsum : sumT (L.take k) ≤ 11258999068098560 := by
        have h1 := sumT_le (L.take k) 140737488351232 (fun p hp => HO.out p (List.mem_of_mem_take hp))
        have h2 : (L.take k).length ≤ 40 := by rw [List.length_take]; omega
        exact Nat.le_trans h1 (Nat.mul_le_mul_right (2 * 140737488351232) h2)
      by_cases hlt : k < len
      · obtain ⟨⟨pk, pv⟩, hp⟩ := some_get HL.out hlt
        obtain ⟨b, off, ha, hbs, h0, h2⟩ := HT.out.two hb (map_get hp)
        have HP : Hid (sumT (L.take (k + 1)) = sumT (L.take k) + (pk.size + pv.size)) := sumT_take L k (pk, pv) hp
        obtain ⟨ok1, ok2⟩ : pk.size ≤ 140737488351232 ∧ pv.size ≤ 140737488351232 := HO.out _ (List.mem_of_getElem? hp)
        subst ha
        clear hp
        generalize sumT (L.take k) = Z at *
        go_wp2
        go_roundg (len - (k + 1))
        case measure => have := HJ.out; omega
        case rel => exact ⟨k + 1, by omega, by go_num, by rw [HP.out]; first | go_num | (congr 1; unfold wrap64; omega), hb.alloc hsz _⟩
      · have HS : Hid (sumT (L.take k) = sumT L) := by show _ = _; rw [List.take_of_length_le (by have := HE.out; omega)]
        generalize hZ : sumT (L.take k) = Z at *
        have HZ := Lib.hid hZ
        clear hZ
        go_wp2
        go_ret
        exact ⟨ret_int (by rw [HF.out, ← HS.out]; omega), hb⟩
end Go.Proofs.YtanfkolcoaofdabDoor
