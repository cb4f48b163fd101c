/- The contracts of the closure of the program's cum.Even, and of slices.IndexFunc with it. -/
import Derived.Test.YtfgcmlgdgmcffabFindMath
namespace Go.Proofs.Ytfgcmlgdgmcffab
open Go.ChangeShapes Go.WideShapes Go.ChangeAt Go.RowKit

set_option maxRecDepth 100000 in
set_option maxHeartbeats 400000 in
theorem evenClo_any (s k x : Int) (B C : Nat) (w : World) (hk : w.cell? ⟨B, 0, none⟩ = some (.int .i64 k)) (hx : w.cell? ⟨C, 0, none⟩ = some (.int .i64 x)) (h0 : 0 ≤ s * k) (h1 : s * k ≤ 40000000000000000) :
    Calls Try.prog 30 #[.int .i64 s, .pointer (some ⟨B, 0, none⟩), .pointer (some ⟨C, 0, none⟩)] w fun e w' => e = .returned (.bool (decide (x < s * k))) ∧ w = w' := by
  go_enter Try.func30, Try.ntmps30
  go_wp2
  go_ret
  exact ⟨rfl, rfl⟩

set_option maxRecDepth 100000 in
set_option maxHeartbeats 1000000 in
theorem evenIndex_any (a : Option Addr) (len cap : Nat) (l : List Int) (n x : Int) (B C : Nat) (w : World) (h : Tab w a len cap 1 (l.map iC)) (hk : w.cell? ⟨B, 0, none⟩ = some (.int .i64 n)) (hx : w.cell? ⟨C, 0, none⟩ = some (.int .i64 x)) (hb : ∀ s ∈ l, 0 ≤ s * n ∧ s * n ≤ 40000000000000000) (hf : l.findIdx (fun s => decide (x < s * n)) < l.length) :
    Calls Try.prog 29 #[.slice a len cap, .func (.func 30) #[] #[.pointer (some ⟨B, 0, none⟩), .pointer (some ⟨C, 0, none⟩)]] w fun e w' => e = .returned (.int .i64 (l.findIdx (fun s => decide (x < s * n)) : Nat)) ∧ w = w' := by
  have hl := h.hlen
  have hm := h.hmax
  have hle := h.hle
  rw [List.length_map] at hl
  unfold maxLen at hm
  have HT := Lib.hid h
  have HL := Lib.hid hl
  have HC := Lib.hid (fun s (hs : s ∈ l) => evenClo_any s n x B C w hk hx (hb s hs).1 (hb s hs).2)
  have HF := Lib.hid hf
  obtain ⟨r, hr⟩ : ∃ r, l.findIdx (fun s => decide (x < s * n)) = r := ⟨_, rfl⟩
  rw [hr]
  have HR := Lib.hid hr
  clear h hl hk hx hb hf hr
  go_enter Try.func29, Try.ntmps29
  go_wp2_with fail
  go_loopg [8] len (fun g i wr => ∃ k : Nat, k + g = len ∧ i = .int .i64 k ∧ Hid (∀ j, j < k → ∀ y, l[j]? = some y → decide (x < y * n) = false) ∧ wr = w)
  case atStart => exact ⟨0, by omega, rfl, Lib.hid (fun j hj => by omega), rfl⟩
  case round =>
    obtain ⟨k, hk0, rfl, HN, rfl⟩ := hrel
    have HJ := Lib.hid hk0
    have hk : k ≤ len := by omega
    clear hk0
    by_cases hlt : k < len
    · obtain ⟨y, hy⟩ : ∃ y, l[k]? = some y := ⟨_, List.getElem?_eq_getElem (by rw [HL.out]; exact hlt)⟩
      obtain ⟨b1, o1, ha, hbs, c0⟩ := HT.out.one (Below.refl _ _) (map_get hy)
      have HX := Lib.hid (HC.out y (List.mem_of_getElem? hy))
      have HXX := Lib.hid hy
      subst ha
      clear hy HC
      by_cases hp : decide (x < y * n) = true
      · rw [hp] at HX
        obtain rfl : r = k := by rw [← HR.out]; exact find_here (p := fun s => decide (x < s * n)) HXX.out hp HN.out
        clear hp
        go_wp2_with fail
        refine HX.out.mono ?_
        rintro e w1 ⟨rfl, rfl⟩
        go_wp2
        go_ret
        exact ⟨rfl, rfl⟩
      · have hp' : decide (x < y * n) = false := by simpa using hp
        rw [hp'] at HX
        have HN' := Lib.hid (find_on (p := fun s => decide (x < s * n)) HXX.out hp' HN.out)
        clear hp hp'
        go_wp2_with fail
        refine HX.out.mono ?_
        rintro e w1 ⟨rfl, rfl⟩
        go_wp2_with fail
        go_roundg (len - (k + 1))
        case measure => have := HJ.out; omega
        case rel => exact ⟨k + 1, by omega, by go_num, HN', rfl⟩
    · obtain rfl : k = len := by omega
      exact (find_none (p := fun s => decide (x < s * n)) (by rw [HL.out]; exact HN.out) HF.out).elim
end Go.Proofs.Ytfgcmlgdgmcffab
