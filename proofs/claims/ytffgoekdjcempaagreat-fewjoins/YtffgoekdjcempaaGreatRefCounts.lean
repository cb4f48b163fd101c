/- The contract of the document's own counts by key (culref.Counts): a map of sums. -/
import Derived.Test.YtffgoekdjcempaaGreatIntSum
import Derived.Test.YtffgoekdjcempaaGreatCameSum
import Derived.Test.YtffgoekdjcempaaGreatInfoCounters
import Derived.Test.YtffgoekdjcempaaGreatGr3
import Derived.Deep.DeepCutAuto
import Derived.Deep.LoopGhost
namespace Go.Proofs.YtffgoekdjcempaaGreat
open Go.ChangeShapes Go.WideShapes Go.ChangeAt Go.RowKit
open Came

theorem lawRC : Maps.Keyed Tryz.prog 3 := Maps.int_keyed Tryz.underlying3
theorem zeroRC (w : World) : (zeroValue 3).run Tryz.prog w = .ok (.int .i64 0) w := by kernel_rfl
theorem oft_bd {z : Int} : ∀ {C : List (Int × Int)}, (∀ p ∈ C, 0 ≤ p.2) → 0 ≤ oft z C ∧ oft z C ≤ sumN C
  | [], _ => by simp [oft, sumN]
  | p :: C, h => by
    have h1 := h p (by simp)
    have h2 := oft_bd (z := z) (C := C) (fun q hq => h q (by simp [hq]))
    have e : sumN (p :: C) = p.2 + sumN C := by simp [sumN]
    rw [oft, e]
    split <;> omega

set_option maxRecDepth 100000 in
set_option maxHeartbeats 2000000 in
theorem counts_wide (q : Option Addr) (n c : Nat) (C : List (Int × Int)) (w : World) (hC : Tab w q n c 2 (C.map iiC)) (hn : n ≤ 100000) (hp : ∀ p ∈ C, 0 ≤ p.2) (hk : ∀ p ∈ C, wfI p.1) (hS : sumN C ≤ 1000000000000000) :
    Calls Tryz.prog 10 #[.slice q n c] w fun e w' => ∃ b : Nat, e = .returned (.map (some b)) ∧ w.heap.size ≤ b ∧ OwnsSums Tryz.prog 3 3 w' b C.reverse ∧ Below w.heap.size w w' := by
  have hl := hC.hlen
  rw [List.length_map] at hl
  have HCT := Lib.hid hC
  have HN := Lib.hid hl
  have HP := Lib.hid hp
  have HK := Lib.hid hk
  have HS := Lib.hid hS
  have hmm := @run_makeMap Tryz.prog
  have HM0 : Hid (OwnsSums Tryz.prog 3 3 (w.alloc (.map #[] 0)) w.heap.size []) := Lib.hid (ownsSums_made _ _ _ w)
  have HB0 : Hid (Below w.heap.size w (w.alloc (.map #[] 0))) := Lib.hid ((Below.refl _ _).alloc (Nat.le_refl _) _)
  clear hC hl hp hk hS
  go_enter Tryz.func10, Tryz.ntmps10
  go_wp2_with fail
  obtain ⟨MB, hMB⟩ : ∃ MB, w.heap.size = MB := ⟨_, rfl⟩
  have HMB := Lib.hid hMB
  rw [hMB] at HM0
  try rw [hMB]
  generalize w.alloc (.map #[] 0) = W0 at *
  clear hmm hMB
  go_loopg [9] n (fun g i wr => ∃ k : Nat, k + g = n ∧ i = .int .i64 k ∧ Hid (OwnsSums Tryz.prog 3 3 wr MB (C.take k).reverse) ∧ Hid (Below w.heap.size w wr))
  case atStart => exact ⟨0, by omega, rfl, HM0, HB0⟩
  case round =>
    clear HM0 HB0
    obtain ⟨k, hk0, rfl, HM, HB⟩ := hrel
    have HJ := Lib.hid hk0
    have hk : k ≤ n := by omega
    clear hk0
    by_cases hlt : k < n
    · obtain ⟨p, hp⟩ : ∃ x, C[k]? = some x := ⟨_, List.getElem?_eq_getElem (by rw [HN.out]; exact hlt)⟩
      obtain ⟨b1, o1, ha, hbs, c0, c1⟩ := HCT.out.two HB.out (map_get hp)
      have hpm := List.mem_of_getElem? hp
      have hp0 := HP.out p hpm
      have hwk := wf_i64 (HK.out p hpm)
      have htk : ∀ r ∈ C.take k, 0 ≤ r.2 := fun r hr => HP.out r (List.mem_of_mem_take hr)
      have ho := oft_bd (z := p.1) htk
      rw [← oft_reverse] at ho
      have hsp : sumN (C.take (k + 1)) = sumN (C.take k) + p.2 := by rw [List.take_add_one, hp, Option.toList_some, sumN_snoc]
      have hst : sumN (C.take (k + 1)) ≤ sumN C := by
        have e : sumN C = sumN (C.take (k + 1)) + sumN (C.drop (k + 1)) := by rw [← sumN_append, List.take_append_drop]
        have := (oft_bd (z := 0) (C := C.drop (k + 1)) (fun r hr => HP.out r (List.mem_of_mem_drop hr)))
        omega
      have hrv : (C.take (k + 1)).reverse = p :: (C.take k).reverse := by rw [List.take_add_one, hp, Option.toList_some, List.reverse_append]; rfl
      have HRV := Lib.hid hrv
      have hsum := HS.out
      have hlo : 0 ≤ oft p.1 (C.take k).reverse + p.2 := by omega
      have hhi : oft p.1 (C.take k).reverse + p.2 ≤ 1000000000000000 := by omega
      have hol := ho.1
      have hlen : (C.take k).reverse.length < 1000000 := by rw [List.length_reverse, List.length_take]; omega
      obtain ⟨key, cnt⟩ := p
      simp only at hlo hhi hol hp0 hwk c0 c1
      have hky : keyOf Tryz.prog 3 (.int .i64 key) = some (.int .i64 key) := Maps.keyOf_int_mk (P := Tryz.prog) Tryz.underlying3 (HK.out _ hpm)
      obtain ⟨wo, hwo⟩ : ∃ wo, wo = wr := ⟨_, rfl⟩
      subst hwo
      have hal : Below wo.heap.size wo (wo.alloc (.cells #[.int .i64 key, .int .i64 cnt] 37)) := (Below.refl _ _).alloc (Nat.le_refl _) _
      have kc := (MapKept.heap_alloc wo (.cells #[.int .i64 key, .int .i64 cnt] 37)).1
      have HM1 := HM.out.below hal
      obtain ⟨w1, hw1⟩ : ∃ v, wo.alloc (.cells #[.int .i64 key, .int .i64 cnt] 37) = v := ⟨_, rfl⟩
      rw [hw1] at hal kc HM1
      have HV1 := Lib.hid hw1
      have HW1 := Lib.hid (below_on HB.out hal)
      have HMM := Lib.hid HM1
      have hlook := HM1.look lawRC Tryz.underlying32 Tryz.underlying3 (zeroRC _) hky
      have HKY := Lib.hid hky
      have HLE := Lib.hid hlen
      have HLO := Lib.hid hlo
      have HHI := Lib.hid hhi
      have HML := Lib.hid HM.out.lt
      subst ha
      generalize (C.take k).reverse = E at *
      have hoh : oft key E ≤ 1000000000000000 := by omega
      have hch : cnt ≤ 1000000000000000 := by omega
      obtain ⟨so, hso⟩ : ∃ so, oft key E = so := ⟨_, rfl⟩
      have HSO := Lib.hid hso
      rw [hso] at hlook hol hoh
      have hadd : so + cnt ≤ 1000000000000000 := by rw [← hso]; exact hhi
      clear hp hpm htk ho hsp hst hrv hsum hlo hhi hlen hky hal hw1 HM1 hso
      go_upto_region 5 with fail
      rw [HV1.out]
      obtain ⟨Y, hY⟩ : ∃ Y, wo.heap.size = Y := ⟨_, rfl⟩
      rw [hY] at kc ⊢
      have HYB := Lib.hid hY
      clear HV1 hY c0 c1
      obtain ⟨⟨e0, e1⟩, _⟩ := box_two kc
      clear kc
      go_wp2_with (at_mapUpdate; refine wpList_sum15 _ rfl _ _ _ 32 rfl 3 3 lawRC Tryz.underlying32 Tryz.underlying3 MB E rfl HMM.out HLE.out key cnt rfl (by rw [HSO.out]; rfl) HLO.out HHI.out HKY.out ?_; intro w9 hc9 hg9)
      have HBW := Lib.hid (HW1.out.grown hg9 HW1.out.size (fun q hq => by cases hq; rw [HMB.out]; exact Nat.le_refl _))
      have HM9 := Lib.hid hc9
      clear hc9 hg9 hlook e0 e1
      go_wp2_with fail
      go_roundg (n - (k + 1))
      case measure => have := HJ.out; omega
      case rel => exact ⟨k + 1, by omega, by go_num, by rw [HRV.out]; exact HM9, HBW⟩
    · obtain rfl : k = n := by omega
      have hM := HM.out
      rw [List.take_of_length_le (by rw [HN.out]; exact Nat.le_refl _)] at hM
      have HM2 := Lib.hid hM
      clear hM
      go_wp2
      go_ret
      exact ⟨_, rfl, by rw [HMB.out]; exact Nat.le_refl _, HM2.out, HB.out⟩
theorem counts_any (q : Option Addr) (n c : Nat) (C : List (Int × Int)) (w : World) (hC : Tab w q n c 2 (C.map iiC)) (hn : n ≤ 100000) (hp : ∀ p ∈ C, 0 ≤ p.2) (hk : ∀ p ∈ C, wfI p.1) (hS : sumN C ≤ 1000000000000) :
    Calls Tryz.prog 10 #[.slice q n c] w fun e w' => ∃ b : Nat, e = .returned (.map (some b)) ∧ w.heap.size ≤ b ∧ OwnsSums Tryz.prog 3 3 w' b C.reverse ∧ Below w.heap.size w w' :=
  counts_wide q n c C w hC hn hp hk (Int.le_trans hS (by decide))
end Go.Proofs.YtffgoekdjcempaaGreat
