/- The contract of the program's state.Check. -/
import Derived.Test.YtfocmnjkoominaaDoorStateKey
import Derived.Test.YtfocmnjkoominaaDoorSetBool
import Derived.Test.YtfocmnjkoominaaDoorShapes
import Derived.StringKeys
namespace Go.Proofs.YtfocmnjkoominaaDoor
open Go.ChangeShapes Go.WideShapes Go.ChangeAt Go.RowKit
open Go.Maps (Keyed string_keyed)
open StateMath

theorem run_makeMap_hint (t k e : TypeId) (ht : Tryd.prog.underlying t = some (.map k e)) (q : IntKind) (n : Int) (w : World) :
    (Instr.makeMap t (some (.int q n))).run Tryd.prog w = .ok (.map (some w.heap.size)) (w.alloc (.map #[] 0)) := by
  simp [Instr.makeMap, run_underlying ht, asInt, asIntOf, Result.andThen]
theorem lawS : Keyed Tryd.prog 9 := string_keyed Tryd.underlying9
theorem zeroB (w : World) : (zeroValue 4).run Tryd.prog w = .ok (.bool false) w := by kernel_rfl
/-- the keys of so many pairs stand in the set -/
def Seen (L : List Pr) (k : Nat) (S : Lit → Bool) : Prop := ∀ key : ByteArray, S (.string key.data.toList) = (L.take k).any (fun q => decide (q.1 = key))
theorem seen_zero (L : List Pr) : Seen L 0 (fun _ => false) := fun _ => rfl
theorem seen_next {L : List Pr} {k : Nat} {S : Lit → Bool} (h : Seen L k S) {p : Pr} (hp : L[k]? = some p) : Seen L (k + 1) (fun y => y.sameKey (.string p.1.data.toList) || S y) := by
  intro key
  show ((Lit.string key.data.toList).sameKey (.string p.1.data.toList) || S _) = _
  rw [h key, any_take L _ k p hp, Bool.or_comm]
  congr 1
  show (key.data.toList == p.1.data.toList) = decide (p.1 = key)
  rw [Bool.eq_iff_iff, beq_iff_eq, decide_eq_true_iff]
  constructor
  · intro e
    cases p with | mk a b =>
    cases a with | mk d =>
    cases key with | mk d' =>
    simp at e ⊢
    exact e.symm
  · rintro rfl
    rfl

set_option maxRecDepth 100000 in
set_option maxHeartbeats 2000000 in
theorem check_any (a : Option Addr) (len cap : Nat) (L : List Pr) (w : World) (h : Tab w a len cap 2 (L.map ssC)) (hok : ∀ p ∈ L, p.1.size ≤ maxLen ∧ p.2.size ≤ maxLen) :
    Calls Tryd.prog 10 #[.slice a len cap] w fun e w' => e = .returned (.int .i64 (check L)) ∧ Below w.heap.size w w' := by
  have hn := h.hmax
  have hle := h.hle
  have hl := h.hlen
  rw [List.length_map] at hl
  unfold maxLen at hn
  have HL := Lib.hid h.hlen
  have HT := Lib.hid h
  have HO := Lib.hid hok
  clear h hok
  by_cases h40 : 40 < len
  · have HK : Hid (check L = 2) := by show _ = _; unfold check; rw [if_pos (by omega)]
    clear hl
    go_enter Tryd.func10, Tryd.ntmps10
    go_wp2
    go_ret
    exact ⟨by rw [HK.out]; rfl, Below.refl _ _⟩
  · have HK : Hid (check L = scan (L.take 0) (L.drop 0)) := by show _ = _; unfold check; rw [if_neg (by omega)]; rfl
    have HE : Hid (L.length ≤ len) := Nat.le_of_eq hl
    have hmm := run_makeMap_hint 47 9 4 Tryd.underlying47 .i64 len
    clear hl
    go_enter Tryd.func10, Tryd.ntmps10
    go_wp2
    clear hmm
    go_loopg [14] len (fun g i wr => ∃ k : Nat, k + g = len ∧ i = .int .i64 k ∧ (∃ S, OwnsSet Tryd.prog 9 4 wr w.heap.size k S ∧ Seen L k S) ∧ Below w.heap.size w wr ∧ Hid (check L = scan (L.take k) (L.drop k)))
    case atStart => exact ⟨0, by omega, rfl, ⟨_, ownsSet_made _ _ _ _, seen_zero L⟩, (Below.refl _ _).alloc (Nat.le_refl _) _, HK⟩
    case round =>
      obtain ⟨k, hk0, rfl, ⟨S, hS, hSeen⟩, hb, HS⟩ := hrel
      have HJ := Lib.hid hk0
      have hk : k ≤ len := by omega
      clear hk0
      have hsz := hb.size
      have HSn := Lib.hid hSeen
      clear hSeen
      by_cases hlt : k < len
      · obtain ⟨⟨pk, pv⟩, hp⟩ := some_get HL.out hlt
        obtain ⟨b, off, ha, hbs, h0, h1⟩ := HT.out.two hb (map_get hp)
        have HP := Lib.hid hp
        obtain ⟨ok1, ok2⟩ := HO.out _ (List.mem_of_getElem? hp)
        subst ha
        clear hp
        have HKey := Lib.hid (key_any pk (wr.alloc (.cells #[.string pk, .string pv] 31)) ok1)
        have HVal := Lib.hid (isValue_any pv (wr.alloc (.cells #[.string pk, .string pv] 31)) ok2)
        have hS2 := hS.alloc (.cells #[.string pk, .string pv] 31)
        have hlook := hS2.look lawS Tryd.underlying47 Tryd.underlying4 (zeroB _) (WideMaps.keyOf_string_mk Tryd.underlying9 ok1) trivial
        rw [HSn.out pk] at hlook
        have HB2 := Lib.hid (hb.alloc hsz (.cells #[.string pk, .string pv] 31))
        cases hkey : keyOk pk.data.toList
        · have HF : Hid (check L = 3) := by
            show _ = _
            rw [HS.out]
            refine scan_form _ _ _ HP.out ?_
            unfold pairOk
            rw [hkey]
            rfl
          rw [hkey] at HKey
          clear hkey hlook
          go_wp2_with fail
          refine HKey.out.mono ?_
          rintro e w1 ⟨rfl, rfl⟩
          go_wp2
          go_ret
          exact ⟨by rw [HF.out]; rfl, HB2.out⟩
        · rw [hkey] at HKey
          cases hval : valOk pv.data.toList
          · have HF : Hid (check L = 3) := by
              show _ = _
              rw [HS.out]
              refine scan_form _ _ _ HP.out ?_
              unfold pairOk
              rw [hval, Bool.and_false]
            rw [hval] at HVal
            clear hkey hval hlook
            go_wp2_with fail
            refine HKey.out.mono ?_
            rintro e w1 ⟨rfl, rfl⟩
            go_wp2_with fail
            refine HVal.out.mono ?_
            rintro e w1 ⟨rfl, rfl⟩
            go_wp2
            go_ret
            exact ⟨by rw [HF.out]; rfl, HB2.out⟩
          · rw [hval] at HVal
            have HOk : Hid (pairOk (pk, pv) = true) := by
              show _ = _
              unfold pairOk
              rw [hkey, hval]
              rfl
            cases hany : (L.take k).any (fun q => decide (q.1 = pk))
            · rw [hany] at hlook
              have HN : Hid (check L = scan (L.take (k + 1)) (L.drop (k + 1))) := by
                show _ = _
                rw [HS.out]
                exact scan_step _ _ _ HP.out HOk.out hany
              clear hkey hval hany
              go_wp2_with fail
              refine HKey.out.mono ?_
              rintro e w1 ⟨rfl, rfl⟩
              go_wp2_with fail
              refine HVal.out.mono ?_
              rintro e w1 ⟨rfl, rfl⟩
              go_wp2_with ((at_mapUpdate; refine wpList_setTrue _ rfl _ _ _ 47 rfl 9 4 lawS Tryd.underlying47 Tryd.underlying4 w.heap.size k S rfl hS2 (by unfold maxLen; omega) _ _ rfl rfl (WideMaps.keyOf_string_mk Tryd.underlying9 ok1) trivial ?_; intro w1 hS1 hg1))
              go_roundg (len - (k + 1))
              case measure => have := HJ.out; omega
              case rel => exact ⟨k + 1, by omega, by go_num, ⟨_, hS1, seen_next HSn.out HP.out⟩, HB2.out.grown hg1 HB2.out.size (fun j hj => by cases hj; exact Nat.le_refl _), HN⟩
            · rw [hany] at hlook
              have HF : Hid (check L = 5) := by
                show _ = _
                rw [HS.out]
                exact scan_there _ _ _ HP.out HOk.out hany
              clear hkey hval hany
              go_wp2_with fail
              refine HKey.out.mono ?_
              rintro e w1 ⟨rfl, rfl⟩
              go_wp2_with fail
              refine HVal.out.mono ?_
              rintro e w1 ⟨rfl, rfl⟩
              go_wp2
              go_ret
              exact ⟨by rw [HF.out]; rfl, HB2.out⟩
      · have HF : Hid (check L = 0) := by
          show _ = _
          rw [HS.out]
          exact scan_end L k (by have := HE.out; omega)
        clear HSn
        go_wp2
        go_ret
        exact ⟨by rw [HF.out]; rfl, hb⟩
end Go.Proofs.YtfocmnjkoominaaDoor
