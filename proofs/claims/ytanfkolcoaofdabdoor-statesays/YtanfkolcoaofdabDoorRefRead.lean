/- The contract of the document's own Read (package culref). -/
import Derived.Test.YtanfkolcoaofdabDoorOwnMore
import Derived.Test.YtanfkolcoaofdabDoorReadMath
import Derived.Test.YtanfkolcoaofdabDoorRefText
import Derived.Test.YtanfkolcoaofdabDoorInfoPairs
import Derived.RegionTactic
import Derived.BigRegion
namespace Go.Proofs.YtanfkolcoaofdabDoor
open Go.ChangeShapes Go.WideShapes Go.ChangeAt Go.RowKit
open StateMath



/-- what stands when k bytes were read: the pairs so far, and the pair that grows in the block w.heap.size -/
structure Reads (w wr : World) (v : Value) (k : Nat) (t : RSt) : Prop where
  own : Own wr (w.heap.size + 1) 45 2 v (t.out.map ssC)
  few : t.out.length ≤ k
  blk : wr.heap[w.heap.size]? = some (.cells #[.string t.key, .string t.val] 45 (0, 0))
  bel : Below w.heap.size w wr
  big : w.heap.size < wr.heap.size
  k0 : t.key.size ≤ k
  k1 : t.val.size ≤ k
  small : ∀ p ∈ t.out, p.1.size ≤ k ∧ p.2.size ≤ k
theorem step_comma (t : RSt) (h : t.inn = true) : t.step 44 = some ⟨t.out ++ [(t.key, t.val)], ByteArray.empty, ByteArray.empty, false⟩ := by
  unfold RSt.step; rw [if_pos rfl, if_pos h]
theorem step_bad (t : RSt) (h : t.inn = false) : t.step 44 = none := by
  unfold RSt.step; rw [if_pos rfl, if_neg (by rw [h]; decide)]
theorem step_eq (t : RSt) (h : t.inn = false) : t.step 61 = some { t with inn := true } := by
  unfold RSt.step; rw [if_neg (by decide), if_neg (by rw [h]; decide), if_pos rfl]
theorem step_val (t : RSt) (c : UInt8) (hc : c ≠ 44) (h : t.inn = true) : t.step c = some { t with val := t.val ++ ⟨#[c]⟩ } := by
  unfold RSt.step; rw [if_neg hc, if_pos h]
theorem step_key (t : RSt) (c : UInt8) (hc : c ≠ 44) (hd : c ≠ 61) (h : t.inn = false) : t.step c = some { t with key := t.key ++ ⟨#[c]⟩ } := by
  unfold RSt.step; rw [if_neg hc, if_neg (by rw [h]; decide), if_neg hd]
theorem byte_is (c : UInt8) (n : Nat) (hn : n < 256) (h : c = UInt8.ofNat n) : ((c.toNat : Int) == (n : Int)) = true := by
  subst h; simp [UInt8.toNat_ofNat, Nat.mod_eq_of_lt hn]
theorem byte_not (c : UInt8) (n : Nat) (h : c ≠ UInt8.ofNat n) : ((c.toNat : Int) == (n : Int)) = false := by
  simp only [beq_eq_false_iff_ne]
  intro e
  apply h
  have : c.toNat = n := by omega
  rw [← this]
  exact UInt8.ofNat_toNat.symm
theorem one_byte (s : ByteArray) (k : Nat) (h : k < s.size) : s.extract k (k + 1) = ⟨#[s[k]]⟩ := by
  apply ByteArray.ext
  rw [ByteArray.data_extract]
  apply Array.ext
  · simp; have : k < s.data.size := h; omega
  · intro i h1 h2
    simp at h2
    subst h2
    simp
    rfl

theorem Reads.comma {w wr w1 : World} {o : Obj} {v v' : Value} {k : Nat} {t : RSt} (h : Reads w wr v k t) (hO1 : Own w1 (w.heap.size + 1) 45 2 v' (t.out.map ssC ++ [[.string t.key, .string t.val]])) (hg1 : (wr.alloc o).grownBy w1 v.ownBlock) :
    Reads w ((w1.setCell ⟨w.heap.size, 0, none⟩ (.string ⟨#[]⟩)).setCell ⟨w.heap.size, 1, none⟩ (.string ⟨#[]⟩)) v' (k + 1) ⟨t.out ++ [(t.key, t.val)], ByteArray.empty, ByteArray.empty, false⟩ := by
  have hblk := blk_grown (w := w) h.own hg1 (Nat.lt_succ_self _) h.blk
  have hsz := hg1.size
  simp at hsz
  have hbig := h.big
  refine ⟨?_, ?_, ?_, ?_, ?_, Nat.zero_le _, Nat.zero_le _, ?_⟩
  · have e : (t.out ++ [(t.key, t.val)]).map ssC = t.out.map ssC ++ [[.string t.key, .string t.val]] := by rw [List.map_append]; rfl
    rw [e]
    exact (hO1.setCell (Nat.lt_succ_self _) _).setCell (Nat.lt_succ_self _) _
  · have := h.few
    rw [List.length_append]
    show _ + 1 ≤ _
    omega
  · exact heap_setCell_same _ _ 1 _ _ _ (heap_setCell_same w1 _ 0 _ _ _ hblk)
  · exact ((h.own.alloc o).under (h.bel.alloc (by omega) o) (by omega) (by simp; omega) hg1).setCell (Nat.le_refl _) _ |>.setCell (Nat.le_refl _) _
  · simp; omega
  · intro p hp
    rcases List.mem_append.1 hp with hp | hp
    · exact ⟨Nat.le_succ_of_le (h.small p hp).1, Nat.le_succ_of_le (h.small p hp).2⟩
    · obtain rfl : p = (t.key, t.val) := by simpa using hp
      exact ⟨Nat.le_succ_of_le h.k0, Nat.le_succ_of_le h.k1⟩
theorem Reads.key {w wr : World} {v : Value} {k : Nat} {t : RSt} (h : Reads w wr v k t) (c : UInt8) :
    Reads w (wr.setCell ⟨w.heap.size, 0, none⟩ (.string (t.key ++ ⟨#[c]⟩))).drew v (k + 1) { t with key := t.key ++ ⟨#[c]⟩ } := by
  refine ⟨(h.own.setCell (a := ⟨w.heap.size, 0, none⟩) (Nat.lt_succ_self _) _).drew, Nat.le_succ_of_le h.few, heap_setCell_same wr _ 0 _ _ _ h.blk, (h.bel.setCell (Nat.le_refl _) _).drew, by have := h.big; simpa using this, ?_, Nat.le_succ_of_le h.k1, fun p hp => ⟨Nat.le_succ_of_le (h.small p hp).1, Nat.le_succ_of_le (h.small p hp).2⟩⟩
  show (t.key ++ ⟨#[c]⟩).size ≤ _
  rw [size_add]
  have := h.k0
  show t.key.size + 1 ≤ _
  omega
theorem Reads.val {w wr : World} {v : Value} {k : Nat} {t : RSt} (h : Reads w wr v k t) (c : UInt8) :
    Reads w (wr.setCell ⟨w.heap.size, 1, none⟩ (.string (t.val ++ ⟨#[c]⟩))).drew v (k + 1) { t with val := t.val ++ ⟨#[c]⟩ } := by
  refine ⟨(h.own.setCell (a := ⟨w.heap.size, 1, none⟩) (Nat.lt_succ_self _) _).drew, Nat.le_succ_of_le h.few, heap_setCell_same wr _ 1 _ _ _ h.blk, (h.bel.setCell (Nat.le_refl _) _).drew, by have := h.big; simpa using this, Nat.le_succ_of_le h.k0, ?_, fun p hp => ⟨Nat.le_succ_of_le (h.small p hp).1, Nat.le_succ_of_le (h.small p hp).2⟩⟩
  show (t.val ++ ⟨#[c]⟩).size ≤ _
  rw [size_add]
  have := h.k1
  show t.val.size + 1 ≤ _
  omega

set_option maxRecDepth 100000 in
set_option maxHeartbeats 1000000 in
theorem refRead_any (s : ByteArray) (w : World) :
    Calls Tryd.prog 24 #[.string s] w fun e w' => ∃ v, e = .returned (.tuple #[v, .int .i64 (readOf s).2]) ∧ Own w' w.heap.size 45 2 v ((readOf s).1.map ssC) ∧ Below w.heap.size w w' := by
  by_cases h200 : 200 < s.size
  · have HF : Hid (readOf s = ([], 2)) := by show _ = _; unfold readOf; rw [if_pos h200]
    go_enter Tryd.func24, Tryd.ntmps24
    go_wp2
    go_ret2
    exact ⟨_, by rw [HF.out]; rfl, by rw [HF.out]; exact Own.nil _ _ _ _, Below.refl _ _⟩
  · by_cases h0 : s.size = 0
    · have HF : Hid (readOf s = ([], 0)) := by show _ = _; unfold readOf; rw [if_neg h200, if_pos h0]
      have t1 : s.toList.isEmpty = true := by
        rw [Lib.toList_data]
        cases e : s.data.toList with
        | nil => rfl
        | cons a l => rw [Lib.size_eq, e] at h0; cases h0
      clear h0
      go_enter Tryd.func24, Tryd.ntmps24
      go_wp2
      go_ret2
      exact ⟨_, by rw [HF.out]; rfl, by rw [HF.out]; exact Own.nil _ _ _ _, Below.refl _ _⟩
    · have t1 : s.toList.isEmpty = false := by
        rw [Lib.toList_data]
        cases e : s.data.toList with
        | nil => rw [Lib.size_eq, e] at h0; exact absurd rfl h0
        | cons a l => rfl
      have H0 := Lib.hid h0
      clear h0
      go_enter Tryd.func24, Tryd.ntmps24
      go_wp2
      go_loopw [4, 6, 7] (fun v b i wr => ∃ (k : Nat) (t : RSt), k ≤ s.size + 1 ∧ i = .int .i64 k ∧ b = .bool t.inn ∧ Hid (Reads w wr v k t) ∧ Hid (RSt.init.run ((closed s).take k) = some t)) (fun _ _ i _ => s.size + 1 - (intOf i).toNat)
      case atStart => exact ⟨0, RSt.init, Nat.zero_le _, rfl, rfl, ⟨Own.nil _ _ _ _, Nat.le_refl _, heap_alloc_new w _, (Below.refl _ _).alloc (Nat.le_refl _) _, by simp, Nat.le_refl _, Nat.le_refl _, fun p hp => by cases hp⟩, rfl⟩
      case round =>
        obtain ⟨k, t, hk, rfl, rfl, HR, HS⟩ := hrel
        by_cases hle : k ≤ s.size
        · by_cases hcom : k = s.size ∨ ∃ h : k < s.size, s[k] = 44
          · have HC : Hid ((closed s)[k]? = some 44) := by
              show _ = _
              rcases hcom with rfl | ⟨h, e⟩
              · exact closed_end s
              · rw [closed_at s k h, e]
            have c0 := cell_blk (i := 0) HR.out.blk rfl
            have c1 := cell_blk (i := 1) HR.out.blk rfl
            have f0 := frozen_blk (i := 0) HR.out.blk
            have f1 := frozen_blk (i := 1) HR.out.blk
            have hO := HR.out.own
            have hbel := HR.out.bel
            have hbig := HR.out.big
            have hfew := HR.out.few
            cases hin : t.inn
            · have HF : Hid (readOf s = ([], 3)) := by
                show _ = _
                unfold readOf pairsOf
                rw [if_neg h200, if_neg H0.out, run_bad _ _ _ _ HC.out HS.out (step_bad t hin)]
                rfl
              rcases hcom with he | ⟨hlt, he⟩
              · have te : ((k : Int) == (s.size : Int)) = true := by simp; omega
                clear he hin
                go_wp2
                go_ret2
                exact ⟨_, by rw [HF.out]; rfl, by rw [HF.out]; exact Own.nil _ _ _ _, hbel⟩
              · have te : ((k : Int) == (s.size : Int)) = false := by simp; omega
                have tc : ((s[k].toNat : Int) == 44) = true := byte_is s[k] 44 (by decide) he
                clear he hin
                go_wp2
                go_ret2
                exact ⟨_, by rw [HF.out]; rfl, by rw [HF.out]; exact Own.nil _ _ _ _, hbel⟩
            · have HU : Hid (RSt.init.run ((closed s).take (k + 1)) = some ⟨t.out ++ [(t.key, t.val)], ByteArray.empty, ByteArray.empty, false⟩) := run_take _ _ _ _ _ HC.out HS.out (step_comma t hin)
              rcases hcom with he | ⟨hlt, he⟩
              · have te : ((k : Int) == (s.size : Int)) = true := by simp; omega
                clear he hin
                go_wp2_with ((at_builtin; refine wpList_append_rows _ rfl _ _ 30 rfl (w.heap.size + 1) 45 _ 2 32 Tryd.underlying30 info_pair rfl (by decide) _ _ rfl (hO.alloc _) ⟨wr.heap.size, 0, none⟩ 1 1 [[.string t.key, .string t.val]] rfl rfl (by simp) (one_row _ _ _ _ (by simp)) (by simp [Value.oneCell']) (by simp; omega) (by decide) (by simp; omega) ?_; intro v' w1 hO1 hg1; have B1 := Lib.hid (blk_grown (w := w) hO hg1 (Nat.lt_succ_self _) HR.out.blk); have d0 := cell_blk (i := 0) B1.out rfl; have d1 := cell_blk (i := 1) B1.out rfl; have g0 := frozen_blk (i := 0) B1.out; have g1 := frozen_blk (i := 1) B1.out))
                go_roundw
                case rel => exact ⟨k + 1, _, by omega, by go_num, rfl, HR.out.comma hO1 hg1, HU⟩
                case measure => simp [intOf]; omega
              · have te : ((k : Int) == (s.size : Int)) = false := by simp; omega
                have tc : ((s[k].toNat : Int) == 44) = true := byte_is s[k] 44 (by decide) he
                clear he hin
                go_wp2_with ((at_builtin; refine wpList_append_rows _ rfl _ _ 30 rfl (w.heap.size + 1) 45 _ 2 32 Tryd.underlying30 info_pair rfl (by decide) _ _ rfl (hO.alloc _) ⟨wr.heap.size, 0, none⟩ 1 1 [[.string t.key, .string t.val]] rfl rfl (by simp) (one_row _ _ _ _ (by simp)) (by simp [Value.oneCell']) (by simp; omega) (by decide) (by simp; omega) ?_; intro v' w1 hO1 hg1; have B1 := Lib.hid (blk_grown (w := w) hO hg1 (Nat.lt_succ_self _) HR.out.blk); have d0 := cell_blk (i := 0) B1.out rfl; have d1 := cell_blk (i := 1) B1.out rfl; have g0 := frozen_blk (i := 0) B1.out; have g1 := frozen_blk (i := 1) B1.out))
                go_roundw
                case rel => exact ⟨k + 1, _, by omega, by go_num, rfl, HR.out.comma hO1 hg1, HU⟩
                case measure => simp [intOf]; omega
          · have hlt : k < s.size := by
              rcases Nat.lt_or_ge k s.size with h | h
              · exact h
              · exact absurd (Or.inl (by omega)) hcom
            have hc : s[k] ≠ 44 := fun e => hcom (Or.inr ⟨hlt, e⟩)
            have HC := Lib.hid (closed_at s k hlt)
            have te : ((k : Int) == (s.size : Int)) = false := by simp; omega
            have tc : ((s[k].toNat : Int) == 44) = false := byte_not s[k] 44 hc
            have c0 := cell_blk (i := 0) HR.out.blk rfl
            have c1 := cell_blk (i := 1) HR.out.blk rfl
            have f0 := frozen_blk (i := 0) HR.out.blk
            have f1 := frozen_blk (i := 1) HR.out.blk
            have hbig := HR.out.big
            have q0 := HR.out.k0
            have q1 := HR.out.k1
            have HX := Lib.hid (one_byte s k hlt)
            cases hin : t.inn
            · by_cases h61 : s[k] = 61
              · have td : ((s[k].toNat : Int) == 61) = true := byte_is s[k] 61 (by decide) h61
                have HU : Hid (RSt.init.run ((closed s).take (k + 1)) = some { t with inn := true }) := run_take _ _ _ _ _ HC.out HS.out (by rw [h61]; exact step_eq t hin)
                clear hcom hc h61
                go_wp2
                go_roundw
                case rel => exact ⟨k + 1, { t with inn := true }, by omega, by go_num, rfl, ⟨HR.out.own, by have := HR.out.few; show t.out.length ≤ _; omega, HR.out.blk, HR.out.bel, hbig, Nat.le_succ_of_le q0, Nat.le_succ_of_le q1, fun p hp => ⟨Nat.le_succ_of_le (HR.out.small p hp).1, Nat.le_succ_of_le (HR.out.small p hp).2⟩⟩, HU⟩
                case measure => simp [intOf]; omega
              · have td : ((s[k].toNat : Int) == 61) = false := byte_not s[k] 61 h61
                have HU : Hid (RSt.init.run ((closed s).take (k + 1)) = some { t with key := t.key ++ ⟨#[s[k]]⟩ }) := run_take _ _ _ _ _ HC.out HS.out (step_key t _ hc h61 hin)
                have a1 : ∀ w : World, (Op.stringOp .add t.key (s.extract k (k + 1))).run Tryd.prog w = .ok (.string (t.key ++ ⟨#[s[k]]⟩)) w := fun w => by rw [HX.out]; exact run_string_add_sum w _ _ (by show t.key.size + 1 ≤ _; omega)
                clear hcom hc h61
                go_wp2
                go_region
                go_wp2
                go_roundw
                case rel => exact ⟨k + 1, _, by omega, by go_num, by rw [hin], HR.out.key s[k], HU⟩
                case measure => simp [intOf]; omega
            · have HU : Hid (RSt.init.run ((closed s).take (k + 1)) = some { t with val := t.val ++ ⟨#[s[k]]⟩ }) := run_take _ _ _ _ _ HC.out HS.out (step_val t _ hc hin)
              have a1 : ∀ w : World, (Op.stringOp .add t.val (s.extract k (k + 1))).run Tryd.prog w = .ok (.string (t.val ++ ⟨#[s[k]]⟩)) w := fun w => by rw [HX.out]; exact run_string_add_sum w _ _ (by show t.val.size + 1 ≤ _; omega)
              clear hcom hc
              go_wp2
              go_region
              go_wp2
              go_roundw
              case rel => exact ⟨k + 1, _, by omega, by go_num, by rw [hin], HR.out.val s[k], HU⟩
              case measure => simp [intOf]; omega
        · have HP : Hid (pairsOf s = some t.out) := by
            show _ = _
            unfold pairsOf
            have := HS.out
            rw [List.take_of_length_le (by rw [closed_len]; omega)] at this
            rw [this]
            rfl
          have hbel := HR.out.bel
          have hbig := HR.out.big
          obtain ⟨a, cap, hv, hT⟩ := HR.out.own.tab
          have HC := Lib.hid (refPairs_any a _ cap t.out wr hT (fun p hp => by have := HR.out.small p hp; unfold maxLen; omega))
          have HO := Lib.hid HR.out.own
          rw [hv] at HO ⊢
          generalize (t.out.map ssC).length = n at *
          clear hv hT
          by_cases hz : check t.out = 0
          · have HF : Hid (readOf s = (t.out, 0)) := by
              show _ = _
              unfold readOf
              rw [if_neg h200, if_neg H0.out, HP.out]
              show (if check t.out = 0 then _ else _) = _
              rw [if_pos hz]
            rw [hz] at HC
            clear hz
            go_wp2_with fail
            refine HC.out.mono ?_
            rintro e w2 ⟨rfl, hb2⟩
            go_wp2
            go_ret2
            exact ⟨_, by rw [HF.out]; rfl, by rw [HF.out]; exact (HO.out.below hb2).base_le (Nat.le_succ _), below_on hbel hb2⟩
          · have HF : Hid (readOf s = ([], check t.out)) := by
              show _ = _
              unfold readOf
              rw [if_neg h200, if_neg H0.out, HP.out]
              show (if check t.out = 0 then _ else _) = _
              rw [if_neg hz]
            have tz : (check t.out != 0) = true := by simpa using hz
            generalize check t.out = c at *
            clear hz
            go_wp2_with fail
            refine HC.out.mono ?_
            rintro e w2 ⟨rfl, hb2⟩
            go_wp2
            go_ret2
            exact ⟨_, by rw [HF.out]; rfl, by rw [HF.out]; exact Own.nil _ _ _ _, below_on hbel hb2⟩

end Go.Proofs.YtanfkolcoaofdabDoor
