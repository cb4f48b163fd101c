/- The contract of the document's own reader of thresholds. -/
import Derived.Test.YtfocmnjkoominaaDoorRefHexa
namespace Go.Proofs.YtfocmnjkoominaaDoor
open Go.ChangeShapes Go.WideShapes Go.ChangeAt Go.RowKit

def zeros (k : Nat) : ByteArray := ⟨(List.replicate k (48 : UInt8)).toArray⟩
theorem slice_zeros {P : Program} (t : TypeId) (ht : P.underlying t = some .string) (k : Nat) (hk : k ≤ 14) (w : World) :
    (Instr.slice t (.string ⟨#[48, 48, 48, 48, 48, 48, 48, 48, 48, 48, 48, 48, 48, 48]⟩) none (some (.int .i64 (14 - (k : Int)))) none).run P w = .ok (.string (zeros (14 - k))) w := by
  rw [run_slice_string_h w t _ ht .i64 _ (by omega) (by show 14 - (k : Int) ≤ 14; omega)]
  congr 2
  rw [show (14 - (k : Int)).toNat = 14 - k from by omega]
  have hall : ∀ i : Fin 15, ((ByteArray.mk #[48, 48, 48, 48, 48, 48, 48, 48, 48, 48, 48, 48, 48, 48]).extract 0 i.val).data.toList = List.replicate i.val 48 := by decide +kernel
  apply ByteArray.ext
  apply Array.toList_inj.1
  exact hall ⟨14 - k, by omega⟩
theorem add_zeros {P : Program} (s : ByteArray) (h : s.size ≤ 14) (w : World) : (Op.stringOp .add s (zeros (14 - s.size))).run P w = .ok (.string (s ++ zeros (14 - s.size))) w := by
  have h2 : (zeros (14 - s.size)).size = 14 - s.size := by
    show (List.replicate _ _).toArray.size = _
    rw [List.size_toArray, List.length_replicate]
  rw [run_string_add_sum w _ _ (by omega)]
theorem pad_list (s : ByteArray) (k : Nat) : (s ++ zeros k).data.toList = s.data.toList ++ List.replicate k 48 := by
  obtain ⟨⟨l⟩⟩ := s
  unfold zeros
  rw [ByteArray.mk_append_mk]
theorem pad_size (s : ByteArray) (h : s.size ≤ 14) : (s ++ zeros (14 - s.size)).size ≤ maxLen := by
  rw [Lib.size_eq, pad_list, List.length_append, List.length_replicate, ← Lib.size_eq]
  unfold maxLen
  omega
theorem pad_parse (l : List UInt8) (h : l.length ≤ 14) : HexaMath.parseRv (l ++ List.replicate (14 - l.length) 48) = if l.all HexaMath.isHex = true then some (HexaMath.num l * 16 ^ (14 - l.length)) else none := by
  have hz : (List.replicate (14 - l.length) (48 : UInt8)).all HexaMath.isHex = true := by
    rw [List.all_eq_true]
    intro x hx
    rw [List.eq_of_mem_replicate hx]; rfl
  have hl : (l ++ List.replicate (14 - l.length) (48 : UInt8)).length = 14 := by simp; omega
  unfold HexaMath.parseRv
  rw [hl, List.all_append, hz, Bool.and_true, HexaMath.num_zeros]
  by_cases c : l.all HexaMath.isHex = true
  · rw [if_pos ⟨rfl, c⟩, if_pos c]
  · rw [if_neg (fun x => c x.2), if_neg c]
theorem parseTh_yes' (l : List UInt8) (n : Nat) (h : n < 72057594037927936) (e : HexaMath.th n = l) : HexaMath.parseTh l = some n := by
  rw [← e]; exact HexaMath.parseTh_th n h
theorem parseTh_no' (l : List UInt8) (n : Nat) (hn : HexaMath.num l * 16 ^ (14 - l.length) = n) (e : ¬ HexaMath.th n = l) : HexaMath.parseTh l = none := by
  cases h : HexaMath.parseTh l with
  | none => rfl
  | some m =>
    exfalso
    have hm := (HexaMath.th_parseTh _ _ h).2
    have : m = n := by
      unfold HexaMath.parseTh at h
      by_cases c : l = [48]
      · rw [if_pos c] at h
        rw [← Option.some.inj h, ← hn, c]
        rfl
      · rw [if_neg c] at h
        by_cases d : l.length = 0 ∨ 14 < l.length ∨ l.getLast? = some 48 ∨ l.all HexaMath.isHex = false
        · rw [if_pos d] at h; cases h
        · rw [if_neg d] at h
          rw [← Option.some.inj h, hn]
    exact e (this ▸ hm)
theorem parseTh_bad (l : List UInt8) (h : l.all HexaMath.isHex = false) : HexaMath.parseTh l = none := by
  unfold HexaMath.parseTh
  by_cases c : l = [48]
  · rw [c] at h; cases h
  · rw [if_neg c, if_pos (.inr (.inr (.inr h)))]
theorem parseTh_long (l : List UInt8) (h : l.length = 0 ∨ 14 < l.length) : HexaMath.parseTh l = none := by
  unfold HexaMath.parseTh
  by_cases c : l = [48]
  · rw [c] at h; simp at h
  · rw [if_neg c, if_pos (h.elim (fun x => .inl x) (fun x => .inr (.inl x)))]
theorem thB_list (n : Nat) : (thB n).data.toList = HexaMath.th n := by
  rw [thB_eq, Lib.extract_data]
  rfl

set_option maxRecDepth 100000 in
set_option maxHeartbeats 400000 in
theorem refParseTh_any (s : ByteArray) (w : World) (hs : s.size ≤ maxLen) :
    Calls Tryd.prog 17 #[.string s] w fun e w' => e = .returned (.int .i64 (orNone (HexaMath.parseTh s.data.toList))) ∧ Below w.heap.size w w' := by
  unfold maxLen at hs
  by_cases h0 : s.size < 1
  · have HB : Hid (HexaMath.parseTh s.data.toList = none) := parseTh_long _ (.inl (by rw [toList_length]; omega))
    have t0 : decide ((s.size : Int) < 1) = true := by simp; omega
    go_enter Tryd.func17, Tryd.ntmps17
    go_wp2
    go_ret
    exact ⟨by rw [HB.out]; rfl, Below.refl _ _⟩
  · have t0 : decide ((s.size : Int) < 1) = false := by simp; omega
    by_cases h1 : 14 < s.size
    · have HB : Hid (HexaMath.parseTh s.data.toList = none) := parseTh_long _ (.inr (by rw [toList_length]; omega))
      have t1 : decide (14 < (s.size : Int)) = true := by simp; omega
      go_enter Tryd.func17, Tryd.ntmps17
      go_wp2
      go_ret
      exact ⟨by rw [HB.out]; rfl, Below.refl _ _⟩
    · have t1 : decide (14 < (s.size : Int)) = false := by simp; omega
      have hsl := slice_zeros (P := Tryd.prog) 9 Tryd.underlying9 s.size (by omega) w
      have hadd := add_zeros (P := Tryd.prog) s (by omega) w
      have HP := Lib.hid (refParseRv_any (s ++ zeros (14 - s.size)) w (pad_size s (by omega)))
      have e1 : HexaMath.parseRv (s ++ zeros (14 - s.size)).data.toList = if s.data.toList.all HexaMath.isHex = true then some (HexaMath.num s.data.toList * 16 ^ (14 - s.data.toList.length)) else none := by
        rw [pad_list]
        have := pad_parse s.data.toList (by rw [toList_length]; omega)
        rw [toList_length] at this ⊢
        exact this
      cases c : s.data.toList.all HexaMath.isHex
      · rw [c, if_neg (by decide)] at e1
        have HB : Hid (HexaMath.parseTh s.data.toList = none) := parseTh_bad _ c
        rw [e1] at HP
        clear c e1
        go_enter Tryd.func17, Tryd.ntmps17
        go_wp2_with fail
        refine HP.out.mono ?_
        rintro e w1 ⟨rfl, hb⟩
        rw [show orNone none = -1 from rfl]
        go_wp2
        go_ret
        exact ⟨by rw [HB.out]; rfl, hb⟩
      · rw [c, if_pos rfl] at e1
        have hn : HexaMath.num s.data.toList * 16 ^ (14 - s.data.toList.length) < 72057594037927936 := (HexaMath.rv_parseRv _ _ e1).1
        rw [e1] at HP
        obtain ⟨n, HN⟩ : ∃ n, Hid (HexaMath.num s.data.toList * 16 ^ (14 - s.data.toList.length) = n) := ⟨_, rfl⟩
        rw [HN.out] at HP hn
        clear c e1
        by_cases d : HexaMath.th n = s.data.toList
        · have HB : Hid (HexaMath.parseTh s.data.toList = some n) := parseTh_yes' _ n hn d
          have t2 : ((thB n).toList == s.toList) = true := by rw [Lib.toList_data, Lib.toList_data, thB_list, d, beq_self_eq_true]
          clear d
          go_enter Tryd.func17, Tryd.ntmps17
          go_wp2_with fail
          refine HP.out.mono ?_
          rintro e w1 ⟨rfl, hb⟩
          rw [show orNone (some n) = n from rfl]
          go_wp2_with fail
          refine (refTh_any n _ hn).mono ?_
          rintro e w2 ⟨rfl, rfl⟩
          go_wp2
          go_ret
          exact ⟨by rw [HB.out]; rfl, hb⟩
        · have HB : Hid (HexaMath.parseTh s.data.toList = none) := parseTh_no' _ n HN.out d
          have t2 : ((thB n).toList == s.toList) = false := by rw [beq_eq_false_iff_ne, Lib.toList_data, Lib.toList_data, thB_list]; exact d
          clear d
          go_enter Tryd.func17, Tryd.ntmps17
          go_wp2_with fail
          refine HP.out.mono ?_
          rintro e w1 ⟨rfl, hb⟩
          rw [show orNone (some n) = n from rfl]
          go_wp2_with fail
          refine (refTh_any n _ hn).mono ?_
          rintro e w2 ⟨rfl, rfl⟩
          go_wp2
          go_ret
          exact ⟨by rw [HB.out]; rfl, hb⟩

end Go.Proofs.YtfocmnjkoominaaDoor
