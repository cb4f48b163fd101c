/- The contracts of the closure of the program's cum.Pick, and of slices.IndexFunc with it. -/
import Derived.Test.YteddoccgbebbeabCumMath
namespace Go.Proofs.Yteddoccgbebbeab
open Go.ChangeShapes Go.WideShapes Go.ChangeAt Go.RowKit

set_option maxHeartbeats 400000 in
theorem pickClo_any (s part : Int) (B : Nat) (w : World) (hc : w.cell? ⟨B, 0, none⟩ = some (.int .i64 part)) :
    Calls Try.prog 32 #[.int .i64 s, .pointer (some ⟨B, 0, none⟩)] w fun e w' => e = .returned (.bool (decide (part < s))) ∧ w = w' := by
  go_enter Try.func32, Try.ntmps32
  go_wp2
  go_ret
  exact ⟨rfl, rfl⟩

theorem find_here {p : Int → Bool} {l : List Int} {k : Nat} {x : Int} (hx : l[k]? = some x) (hp : p x = true) (hn : ∀ j, j < k → ∀ y, l[j]? = some y → p y = false) : l.findIdx p = k := by
  obtain ⟨hk, rfl⟩ := List.getElem?_eq_some_iff.1 hx
  rw [List.findIdx_eq hk]
  exact ⟨hp, fun j hj => hn j hj _ (List.getElem?_eq_getElem _)⟩
theorem find_on {p : Int → Bool} {l : List Int} {k : Nat} {x : Int} (hx : l[k]? = some x) (hp : p x = false) (hn : ∀ j, j < k → ∀ y, l[j]? = some y → p y = false) : ∀ j, j < k + 1 → ∀ y, l[j]? = some y → p y = false := by
  intro j hj y hy
  by_cases e : j = k
  · subst e; rw [hx, Option.some.injEq] at hy; subst hy; exact hp
  · exact hn j (by omega) y hy
theorem find_none {p : Int → Bool} {l : List Int} (hn : ∀ j, j < l.length → ∀ y, l[j]? = some y → p y = false) (h : l.findIdx p < l.length) : False := by
  rw [List.findIdx_lt_length] at h
  obtain ⟨x, hx, hp⟩ := h
  obtain ⟨j, hj, rfl⟩ := List.getElem_of_mem hx
  rw [hn j hj _ (List.getElem?_eq_getElem hj)] at hp
  cases hp

set_option maxRecDepth 100000 in
set_option maxHeartbeats 1000000 in
theorem pickIndex_any (a : Option Addr) (len cap : Nat) (l : List Int) (part : Int) (B : Nat) (w : World) (h : Tab w a len cap 1 (l.map iC)) (hc : w.cell? ⟨B, 0, none⟩ = some (.int .i64 part)) (hf : l.findIdx (fun s => decide (part < s)) < l.length) :
    Calls Try.prog 31 #[.slice a len cap, .func (.func 32) #[] #[.pointer (some ⟨B, 0, none⟩)]] w fun e w' => e = .returned (.int .i64 (l.findIdx (fun s => decide (part < s)) : Nat)) ∧ w = w' := by
  have hl := h.hlen
  have hm := h.hmax
  have hle := h.hle
  rw [List.length_map] at hl
  unfold maxLen at hm
  have HT := Lib.hid h
  have HL := Lib.hid hl
  have HC := Lib.hid (fun s => pickClo_any s part B w hc)
  have HF := Lib.hid hf
  obtain ⟨r, hr⟩ : ∃ r, l.findIdx (fun s => decide (part < s)) = r := ⟨_, rfl⟩
  rw [hr]
  have HR := Lib.hid hr
  clear h hl hc hf hr
  go_enter Try.func31, Try.ntmps31
  go_wp2_with fail
  go_loopg [8] len (fun g i wr => ∃ k : Nat, k + g = len ∧ i = .int .i64 k ∧ Hid (∀ j, j < k → ∀ y, l[j]? = some y → decide (part < y) = false) ∧ wr = w)
  case atStart => exact ⟨0, by omega, rfl, Lib.hid (fun j hj => by omega), rfl⟩
  case round =>
    obtain ⟨k, hk0, rfl, HN, rfl⟩ := hrel
    have HJ := Lib.hid hk0
    have hk : k ≤ len := by omega
    clear hk0
    by_cases hlt : k < len
    · obtain ⟨x, hx⟩ : ∃ x, l[k]? = some x := ⟨_, List.getElem?_eq_getElem (by rw [HL.out]; exact hlt)⟩
      obtain ⟨b1, o1, ha, hbs, c0⟩ := HT.out.one (Below.refl _ _) (map_get hx)
      have HX := Lib.hid (HC.out x)
      have HXX := Lib.hid hx
      subst ha
      clear hx HC
      by_cases hp : decide (part < x) = true
      · rw [hp] at HX
        obtain rfl : r = k := by rw [← HR.out]; exact find_here (p := fun s => decide (part < s)) HXX.out hp HN.out
        clear hp
        go_wp2_with fail
        refine HX.out.mono ?_
        rintro e w1 ⟨rfl, rfl⟩
        go_wp2
        go_ret
        exact ⟨rfl, rfl⟩
      · have hp' : decide (part < x) = false := by simpa using hp
        rw [hp'] at HX
        have HN' := Lib.hid (find_on (p := fun s => decide (part < s)) HXX.out hp' HN.out)
        clear hp hp'
        go_wp2_with fail
        refine HX.out.mono ?_
        rintro e w1 ⟨rfl, rfl⟩
        go_wp2_with fail
        go_roundg (len - (k + 1))
        case measure => have := HJ.out; omega
        case rel => exact ⟨k + 1, by omega, by go_num, HN', rfl⟩
    · obtain rfl : k = len := by omega
      exact (find_none (p := fun s => decide (part < s)) (by rw [HL.out]; exact HN.out) HF.out).elim
end Go.Proofs.Yteddoccgbebbeab
