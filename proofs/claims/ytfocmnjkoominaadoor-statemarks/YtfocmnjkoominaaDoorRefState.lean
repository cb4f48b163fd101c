/- Contracts of the document's own answers on trace states (package culref): Key, Pairs. -/
import Derived.Test.YtfocmnjkoominaaDoorStateMath
import Derived.Test.YtfocmnjkoominaaDoorRefWithin
import Derived.Test.YtfocmnjkoominaaDoorBytes
import Derived.Test.YtfocmnjkoominaaDoorShapes
import Derived.Test.YtfocmnjkoominaaDoorShelf
namespace Go.Proofs.YtfocmnjkoominaaDoor
open Go.ChangeShapes Go.WideShapes Go.ChangeAt Go.RowKit
open StateMath

theorem byte_index (s : ByteArray) (c : UInt8) (w : World) :
    Calls Tryd.prog 16 #[.string s, .int .u8 c.toNat] w fun e w' => e = .returned (.int .i64 (Lib.indexByte s.data.toList c)) ∧ w = w' := by
  refine (strings_IndexByte s c.toNat w).mono ?_
  rintro e w' ⟨rfl, rfl⟩
  have e : (Int.toNat (c.toNat : Int)).toUInt8 = c := by
    rw [Int.toNat_natCast]; exact UInt8.ofNat_toNat
  exact ⟨by rw [e], rfl⟩

set_option maxRecDepth 100000 in
set_option maxHeartbeats 1000000 in
theorem refKey_any (s : ByteArray) (w : World) (hs : s.size ≤ maxLen) :
    Calls Tryd.prog 15 #[.string s] w fun e w' => e = .returned (.bool (keyOk s.data.toList)) ∧ Below w.heap.size w w' := by
  obtain ⟨cap, W, hrun, hb, hsz, hcell⟩ := bytes_run Tryd.prog w 9 40 5 s Tryd.underlying9 Tryd.underlying40 Tryd.underlying5
  have HC := Lib.hid hcell
  clear hcell hsz
  unfold maxLen at hs
  go_enter Tryd.func15, Tryd.ntmps15
  go_wp2
  clear hrun
  go_loop [8] (fun i => ∃ k : Nat, k ≤ s.size ∧ i = .int .i64 k ∧ Hid ((s.data.toList.take k).all keyByte = true)) (fun i => s.size - (intOf i).toNat)
  case atStart => exact ⟨0, Nat.zero_le _, rfl, rfl⟩
  case round =>
    obtain ⟨k, hk, rfl, hxt⟩ := hrel
    by_cases hlt : k < s.size
    · have hc := HC.out k hlt
      have HI := Lib.hid (byte_index ⟨#[97, 98, 99, 100, 101, 102, 103, 104, 105, 106, 107, 108, 109, 110, 111, 112, 113, 114, 115, 116, 117, 118, 119, 120, 121, 122, 48, 49, 50, 51, 52, 53, 54, 55, 56, 57]⟩ s[k] W)
      have hlt0 : decide (Lib.indexByte [97, 98, 99, 100, 101, 102, 103, 104, 105, 106, 107, 108, 109, 110, 111, 112, 113, 114, 115, 116, 117, 118, 119, 120, 121, 122, 48, 49, 50, 51, 52, 53, 54, 55, 56, 57] s[k] < 0) = !keyByte s[k] := all_bytes (p := fun c => decide (Lib.indexByte _ c < 0) = !keyByte c) key_index s[k]
      simp only [] at HI
      generalize Lib.indexByte [97, 98, 99, 100, 101, 102, 103, 104, 105, 106, 107, 108, 109, 110, 111, 112, 113, 114, 115, 116, 117, 118, 119, 120, 121, 122, 48, 49, 50, 51, 52, 53, 54, 55, 56, 57] s[k] = z at *
      cases hx : keyByte s[k]
      · have HB : Hid (keyOk s.data.toList = false) := by show _ = _; unfold keyOk; rw [all_no s k hlt hx]; rfl
        have hz : z < 0 := by rw [hx] at hlt0; simpa using hlt0
        clear hx hlt0
        go_wp2_with fail
        refine HI.out.mono ?_
        rintro e w' ⟨rfl, rfl⟩
        go_wp2
        go_ret
        exact ⟨by rw [HB.out]; rfl, hb⟩
      · have HA : Hid ((s.data.toList.take (k + 1)).all keyByte = true) := by show _ = _; rw [take_all s k hlt, hxt.out, hx]; rfl
        have hz : 0 ≤ z := by rw [hx] at hlt0; simpa using hlt0
        clear hx hlt0
        go_wp2_with fail
        refine HI.out.mono ?_
        rintro e w' ⟨rfl, rfl⟩
        go_wp2
        go_round
        case rel => exact ⟨k + 1, by omega, by go_num, HA⟩
        case measure => simp [intOf]; omega
    · have hx : s.data.toList.all keyByte = true := by rw [← take_full s k hlt]; exact hxt.out
      have HK : Hid (keyOk s.data.toList = (decide ((1 : Int) ≤ s.size) && decide ((s.size : Int) ≤ 16))) := by
        show _ = _
        unfold keyOk
        rw [hx, Bool.true_and, len_list]
        congr 1 <;> (rw [decide_eq_decide]; omega)
      have HW := Lib.hid (within_ref s.size 1 16 W)
      clear hx hxt
      go_wp2_with fail
      refine HW.out.mono ?_
      rintro e w' ⟨rfl, rfl⟩
      go_wp2
      go_ret
      exact ⟨by rw [HK.out]; rfl, hb⟩

/-- a cell of a block that was laid just now, in a later world -/
theorem cell_kept {w w1 : World} {cs : Array Value} {t : TypeId} (hb : Below (w.heap.size + 1) (w.alloc (.cells cs t)) w1) (j : Nat) (u : Value) (h : cs[j]? = some u) : w1.cell? ⟨w.heap.size, j, none⟩ = some u := by
  rw [hb.cell (p := ⟨w.heap.size, j, none⟩) (by show w.heap.size < w.heap.size + 1; omega), World.cell?_alloc_at _ _ _ _ rfl]
  exact h

set_option maxRecDepth 100000 in
set_option maxHeartbeats 1000000 in
theorem refPairs_any (a : Option Addr) (len cap : Nat) (L : List Pr) (w : World) (h : Tab w a len cap 2 (L.map ssC)) (hok : ∀ p ∈ L, p.1.size ≤ maxLen ∧ p.2.size ≤ maxLen) :
    Calls Tryd.prog 6 #[.slice a len cap] w fun e w' => e = .returned (.int .i64 (check L)) ∧ Below w.heap.size w w' := by
  have hn := h.hmax
  have hle := h.hle
  have hl := h.hlen
  rw [List.length_map] at hl
  unfold maxLen at hn
  have HL := Lib.hid h.hlen
  have HT := Lib.hid h
  have HO := Lib.hid hok
  clear h hok
  by_cases h40 : 40 < len
  · have HK : Hid (check L = 2) := by show _ = _; unfold check; rw [if_pos (by omega)]
    clear hl
    go_enter Tryd.func6, Tryd.ntmps6
    go_wp2
    go_ret
    exact ⟨by rw [HK.out]; rfl, Below.refl _ _⟩
  · have HK : Hid (check L = scan (L.take 0) (L.drop 0)) := by show _ = _; unfold check; rw [if_neg (by omega)]; rfl
    have HE : Hid (L.length ≤ len) := Nat.le_of_eq hl
    clear hl
    go_enter Tryd.func6, Tryd.ntmps6
    go_wp2
    go_loopw [14] (fun i wr => ∃ k : Nat, k ≤ len ∧ i = .int .i64 k ∧ Below w.heap.size w wr ∧ Hid (check L = scan (L.take k) (L.drop k))) (fun i _ => len - (intOf i).toNat)
    case atStart => exact ⟨0, Nat.zero_le _, rfl, Below.refl _ _, HK⟩
    case round =>
      obtain ⟨k, hk, rfl, hb, HS⟩ := hrel
      obtain ⟨wo, hwo⟩ : ∃ wo, wo = wr := ⟨_, rfl⟩
      subst hwo
      have hsz := hb.size
      by_cases hlt : k < len
      · obtain ⟨⟨pk, pv⟩, hp⟩ := some_get HL.out hlt
        obtain ⟨b, off, ha, hbs, h0, h1⟩ := HT.out.two hb (map_get hp)
        have HP := Lib.hid hp
        obtain ⟨ok1, ok2⟩ := HO.out _ (List.mem_of_getElem? hp)
        have HAa := Lib.hid ha
        rw [ha]
        clear hp ha
        have HKey := Lib.hid (refKey_any pk (wo.alloc (.cells #[.string pk, .string pv] 31)) ok1)
        unfold maxLen at ok2
        go_wp2_with fail
        refine HKey.out.mono ?_
        rintro e w1 ⟨rfl, hb1⟩
        rw [show (wo.alloc (.cells #[.string pk, .string pv] 31)).heap.size = wo.heap.size + 1 from by simp] at hb1
        have k0 := cell_kept hb1 0 _ rfl
        have k1 := cell_kept hb1 1 _ rfl
        have hbW : Below w.heap.size w w1 := (hb.alloc hsz _).trans (hb1.mono (by omega))
        have hs1 := hb1.size
        simp at hs1
        by_cases hkey : keyOk pk.data.toList = true
        · by_cases hemp : pv.toList.isEmpty = true
          · have HF : Hid (check L = 3) := by
              show _ = _
              rw [HS.out]
              refine scan_form _ _ _ HP.out ?_
              unfold pairOk valOk
              rw [show pv.data.toList.isEmpty = true from by rw [← hemp, Lib.toList_data]]
              simp
            rw [hkey]
            clear hkey
            go_wp2
            go_ret
            exact ⟨by rw [HF.out]; rfl, hbW⟩
          · obtain ⟨cap2, W, hrun, hb2, hsz2, hcell⟩ := bytes_run Tryd.prog w1 9 40 5 pv Tryd.underlying9 Tryd.underlying40 Tryd.underlying5
            have HC := Lib.hid hcell
            have hemp' : pv.toList.isEmpty = false := by simpa using hemp
            have j0 : W.cell? ⟨wo.heap.size, 0, none⟩ = some (.string pk) := (hb2.cell (p := ⟨wo.heap.size, 0, none⟩) (by show wo.heap.size < _; omega)).trans k0
            have hbW2 : Below w.heap.size w W := below_on hbW hb2
            have HQ := Lib.hid hkey
            rw [hkey]
            clear hcell hsz2 hkey hemp
            go_wp2
            clear hrun
            go_loop [32] (fun i => ∃ m : Nat, m ≤ pv.size ∧ i = .int .i64 m ∧ Hid ((pv.data.toList.take m).all valByte = true)) (fun i => pv.size - (intOf i).toNat)
            case atStart => exact ⟨0, Nat.zero_le _, rfl, rfl⟩
            case round =>
              obtain ⟨m, hm, rfl, hxt⟩ := hrel
              by_cases hml : m < pv.size
              · have hc := HC.out m hml
                have hv : (decide (pv[m].toNat < 33) || (decide (126 < pv[m].toNat) || decide (0 ≤ Lib.indexByte [44, 61, 59] pv[m]))) = !valByte pv[m] := all_bytes (p := fun c => (decide (c.toNat < 33) || (decide (126 < c.toNat) || decide (0 ≤ Lib.indexByte [44, 61, 59] c))) = !valByte c) val_index pv[m]
                have HI := Lib.hid (byte_index ⟨#[44, 61, 59]⟩ pv[m] W)
                simp only [] at HI
                generalize Lib.indexByte [44, 61, 59] pv[m] = z at *
                by_cases hx : valByte pv[m] = true
                · have HA : Hid ((pv.data.toList.take (m + 1)).all valByte = true) := by show _ = _; rw [take_all pv m hml, hxt.out, hx]; rfl
                  rw [hx] at hv
                  simp at hv
                  obtain ⟨v1, v2, v3⟩ := hv
                  clear hx
                  go_wp2_with fail
                  refine HI.out.mono ?_
                  rintro e w' ⟨rfl, rfl⟩
                  go_wp2
                  go_round
                  case rel => exact ⟨m + 1, by omega, by go_num, HA⟩
                  case measure => simp [intOf]; omega
                · have hx' : valByte pv[m] = false := by simpa using hx
                  have HF : Hid (check L = 3) := by
                    show _ = _
                    rw [HS.out]
                    refine scan_form _ _ _ HP.out ?_
                    unfold pairOk valOk
                    rw [all_no pv m hml hx']
                    simp
                  rw [hx'] at hv
                  clear hx hx'
                  by_cases v1 : pv[m].toNat < 33
                  · clear hv
                    go_wp2
                    go_ret
                    exact ⟨by rw [HF.out]; rfl, hbW2⟩
                  · by_cases v2 : 126 < pv[m].toNat
                    · clear hv
                      go_wp2
                      go_ret
                      exact ⟨by rw [HF.out]; rfl, hbW2⟩
                    · have v3 : 0 ≤ z := by
                        rw [decide_eq_false v1, decide_eq_false v2] at hv
                        simpa using hv
                      clear hv
                      go_wp2_with fail
                      refine HI.out.mono ?_
                      rintro e w' ⟨rfl, rfl⟩
                      go_wp2
                      go_ret
                      exact ⟨by rw [HF.out]; rfl, hbW2⟩
              · have HV : Hid (pairOk (pk, pv) = true) := by
                  show _ = _
                  unfold pairOk valOk
                  have e1 : pv.data.toList.all valByte = true := by rw [← take_full pv m hml]; exact hxt.out
                  have e2 : pv.data.toList.isEmpty = false := by rw [← hemp', Lib.toList_data]
                  simp only [HQ.out, e1, e2]
                  rfl
                clear hxt
                go_wp2
                go_loopw [52] (fun i wq => ∃ m : Nat, m ≤ k ∧ i = .int .i64 m ∧ Below W.heap.size W wq ∧ Hid ((L.take m).any (fun q => decide (q.1 = pk)) = false)) (fun i _ => k - (intOf i).toNat)
                case atStart => exact ⟨0, Nat.zero_le _, rfl, Below.refl _ _, rfl⟩
                case round =>
                  obtain ⟨m, hm, rfl, hbq, HN⟩ := hrel
                  have hbw : Below w.heap.size w wr := below_on hbW2 hbq
                  have hsq := hbq.size
                  have hs2 := hb2.size
                  have hsw := hbw.size
                  have hwo : wo.heap.size < wr.heap.size := by omega
                  have i0 : wr.cell? ⟨wo.heap.size, 0, none⟩ = some (.string pk) := (hbq.cell (p := ⟨wo.heap.size, 0, none⟩) (by show wo.heap.size < _; omega)).trans j0
                  by_cases hmk : m < k
                  · obtain ⟨⟨qk, qv⟩, hq⟩ := some_get HL.out (show m < len by omega)
                    obtain ⟨b', off', ha, hbs', c0, c1⟩ := HT.out.two hbw (map_get hq)
                    obtain ⟨rfl, rfl⟩ : b = b' ∧ off = off' := by
                      have := HAa.out.symm.trans ha
                      simpa using this
                    have HQ' := Lib.hid hq
                    clear hq ha
                    by_cases hqp : qk = pk
                    · subst hqp
                      have HF : Hid (check L = 5) := by
                        show _ = _
                        rw [HS.out]
                        exact scan_there _ _ _ HP.out HV.out (any_of HQ'.out hmk (by simp))
                      have t1 : (qk.toList == qk.toList) = true := by simp
                      go_wp2
                      go_ret
                      exact ⟨by rw [HF.out]; rfl, hbw.alloc hsw _⟩
                    · have t1 : (qk.toList == pk.toList) = false := by
                        rw [Lib.toList_data, Lib.toList_data]
                        simp only [beq_eq_false_iff_ne]
                        exact fun e => hqp (ByteArray.ext (Array.toList_inj.1 e))
                      have HM : Hid ((L.take (m + 1)).any (fun q => decide (q.1 = pk)) = false) := by
                        show _ = _
                        rw [any_take L _ m _ HQ'.out, HN.out]
                        simpa using hqp
                      clear hqp
                      go_wp2
                      go_roundw
                      case rel => exact ⟨m + 1, by omega, by go_num, hbq.alloc hsq _, HM⟩
                      case measure => simp [intOf]; omega
                  · obtain rfl : m = k := by omega
                    have HR : Hid (check L = scan (L.take (m + 1)) (L.drop (m + 1))) := by
                      show _ = _
                      rw [HS.out]
                      exact scan_step _ _ _ HP.out HV.out HN.out
                    go_wp2
                    go_roundw
                    case rel => exact ⟨m + 1, by omega, by go_num, hbw, HR⟩
                    case measure => simp [intOf]; omega
        · have HF : Hid (check L = 3) := by
            show _ = _
            rw [HS.out]
            refine scan_form _ _ _ HP.out ?_
            unfold pairOk
            rw [show keyOk pk.data.toList = false from by simpa using hkey]
            rfl
          rw [show keyOk pk.data.toList = false from by simpa using hkey]
          clear hkey
          go_wp2
          go_ret
          exact ⟨by rw [HF.out]; rfl, hbW⟩
      · have HZ : Hid (check L = 0) := by show _ = _; rw [HS.out]; exact scan_end _ _ (by have := HE.out; omega)
        go_wp2
        go_ret
        exact ⟨by rw [HZ.out]; rfl, hb⟩

end Go.Proofs.YtfocmnjkoominaaDoor
