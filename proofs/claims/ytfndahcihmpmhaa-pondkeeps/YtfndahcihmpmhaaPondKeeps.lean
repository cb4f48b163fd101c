/-
  'Rows.PondKeepsSaid' is proved: a reservoir holds the right number of distinct offered items, all of them as long as there is room. No condition.
-/
import Derived.Test.YtfndahcihmpmhaaRows
import Derived.Test.YtfndahcihmpmhaaShapes
import Derived.Test.YtfndahcihmpmhaaWithin
import Derived.Test.YtfndahcihmpmhaaPondVar
import Derived.Test.YtfndahcihmpmhaaEqualInts
import Derived.Test.YtfndahcihmpmhaaLit
import Derived.Test.YtfndahcihmpmhaaIntSet
import Derived.Deep.DeepCutAuto
import Derived.Deep.LoopGhost
import Derived.Deep.RegionWith
import Derived.WalkKit
import Derived.ProofKit
import Derived.OpenShut
import Derived.ShutString
import Derived.ChangeOld
import Derived.Below
namespace Go.Proofs.Ytfndahcihmpmhaa.pondKeeps
open Go.ChangeShapes Go.WideShapes Go.ChangeAt Go.RowKit
open Go.ChangeMaps (open_string shut_string)
set_option linter.unusedVariables false

theorem own : ownKnob Try.prog.godebug = none := by kernel_rfl
theorem laidOut : laidOutB Try.prog = true := by kernel_rfl

theorem i64_wf {z : Int} (h1 : -9223372036854775808 ≤ z) (h2 : z ≤ 9223372036854775807) : (Lit.int .i64 z).wf = true := by
  simp [Lit.wf, IntKind.min, IntKind.max, IntKind.bits, IntKind.signed]; omega
theorem lawI : Maps.Keyed Try.prog 3 := Maps.int_keyed Try.underlying3
theorem zeroB (w : World) : (zeroValue 4).run Try.prog w = .ok (.bool false) w := by kernel_rfl
theorem keyI (z : Int) (h : -9223372036854775808 ≤ z ∧ z ≤ 9223372036854775807) : keyOf Try.prog 3 (.int .i64 z) = some (.int .i64 z) := Maps.keyOf_int_mk (P := Try.prog) Try.underlying3 (i64_wf h.1 h.2)
theorem nodup_set {L : List Int} {x : Int} (hx : x ∉ L) (hL : L.Nodup) : ∀ d, (L.set d x).Nodup := by
  induction L with
  | nil => intro d; simp
  | cons a L ih =>
    intro d
    rw [List.nodup_cons] at hL
    cases d with
    | zero =>
      rw [List.set_cons_zero, List.nodup_cons]
      exact ⟨fun h => hx (List.mem_cons_of_mem _ h), hL.2⟩
    | succ d =>
      rw [List.set_cons_succ, List.nodup_cons]
      refine ⟨fun h => ?_, ih (fun h => hx (List.mem_cons_of_mem _ h)) hL.2 d⟩
      rcases List.mem_or_eq_of_mem_set h with h | h
      · exact hL.1 h
      · exact hx (by rw [← h]; exact List.mem_cons_self ..)
/-- what stands of the items when j have been offered -/
def Good (k j : Nat) (L : List Int) : Prop := L.length = min k j ∧ L.Nodup ∧ ∀ x ∈ L, 0 ≤ x ∧ x < (j : Int)
theorem good_next {k j d : Nat} {L : List Int} (h : Good k j L) (hk : 1 ≤ k) : Good k (j + 1) (pondL k j L j d) ∧ ∀ x ∈ pondL k j L j d, x = (j : Int) ∨ x ∈ L := by
  obtain ⟨h1, h2, h3⟩ := h
  have hj : (j : Int) ∉ L := fun h => by have := h3 _ h; omega
  have hmem : ∀ x ∈ pondL k j L j d, x = (j : Int) ∨ x ∈ L := by
    intro x hx
    unfold pondL at hx
    split at hx
    · rcases List.mem_append.1 hx with h | h
      · exact Or.inr h
      · exact Or.inl (List.mem_singleton.1 h)
    · split at hx
      · rcases List.mem_or_eq_of_mem_set hx with h | h
        · exact Or.inr h
        · exact Or.inl h
      · exact Or.inr hx
  refine ⟨⟨?_, ?_, ?_⟩, hmem⟩
  · rw [pondL_len]
    split <;> omega
  · unfold pondL
    split
    · rw [List.nodup_append]
      exact ⟨h2, by simp, fun a ha b hb => by rw [List.mem_singleton.1 hb]; exact fun e => hj (e ▸ ha)⟩
    · split
      · exact nodup_set hj h2 d
      · exact h2
  · intro x hx
    rcases hmem x hx with h | h
    · omega
    · have := h3 x h; omega
theorem not_before {L : List Int} (h : L.Nodup) {m : Nat} {y : Int} (hy : L[m]? = some y) : y ∉ L.take m := by
  obtain ⟨hm, rfl⟩ := List.getElem?_eq_some_iff.1 hy
  intro hin
  obtain ⟨i, hi, e⟩ := List.mem_iff_getElem.1 hin
  rw [List.length_take] at hi
  rw [List.getElem_take] at e
  have := (List.getElem_inj h).1 e
  omega
theorem take_put' {l : List Int} {j : Nat} {y : Int} (h : l[j]? = some y) : l.take (j + 1) = l.take j ++ [y] := by
  rw [List.take_add_one, h]; rfl

set_option maxRecDepth 100000 in
set_option maxHeartbeats 2000000 in
theorem walk (x0 : Int) (x1 : Int) (x2 : Sl Int) (w : World) (w0 : (Lit.int .i64 x0).wf = true) (w1 : (Lit.int .i64 x1).wf = true) (t2 : Tab w x2.a x2.len x2.cap 1 (x2.l.map iC)) (b2 : x2.len * 8 ≤ 140737488351232) (o2 : ∀ z ∈ x2.l, wfI z) :
    Calls Try.prog 6 #[.int .i64 x0, .int .i64 x1, .slice x2.a x2.len x2.cap] w fun e w' => e = .returned (.bool true) ∧ Below w.heap.size w w' := by
  obtain ⟨da, dl, dc, DS⟩ := x2
  have b0 := wf_i64 w0
  have b1 := wf_i64 w1
  have hdm := t2.hmax
  have hdle := t2.hle
  unfold maxLen at hdm
  have LD : Hid (DS.length = dl) := by have h := t2.hlen; rw [List.length_map] at h; exact Lib.hid h
  have HTD := Lib.hid t2
  have HOD := Lib.hid o2
  clear t2 b2 o2
  have C0 := put_ok 1 1 (some ⟨w.heap.size, 0, none⟩) 1 1 [5] 6 0 (w.alloc (.cells #[.int .i64 5] 3)) (tab_lit w 3 1 1 ([(5 : Int)].map iC) #[.int .i64 5] rfl rfl (rows_of iC_len _) (by decide) _ rfl) (by decide)
  rw [show pondL 1 1 [5] 6 0 = [6] from by decide, show (1 : Int) + 1 = 2 from rfl] at C0
  have C0 := Lib.hid C0
  have hb0 : Below w.heap.size w (w.alloc (.cells #[.int .i64 5] 3)) := (Below.refl _ _).alloc (Nat.le_refl _) _
  unfold pondV at C0
  go_enter Try.func6, Try.ntmps6
  go_wp2_with fail
  refine C0.out.mono ?_
  rintro e v1 ⟨s1, rfl, hO1, hb1⟩
  obtain ⟨q1, cap1, rfl, hT1⟩ := hO1.tab
  have HB1 := Lib.hid (below_on hb0 hb1)
  have E1 := Lib.hid (equal_ints q1 (some ⟨v1.heap.size + 1, 0, none⟩) 1 cap1 1 1 [6] [6] ((v1.alloc (.cells #[.int .i64 1, .int .i64 2, .slice q1 1 cap1] 24)).alloc (.cells #[.int .i64 6] 3))
    (hT1.below (((Below.refl _ _).alloc (Nat.le_refl _) _).alloc (by simp) _)) (tab_lit _ _ 1 1 ([(6 : Int)].map iC) #[.int .i64 6] rfl rfl (rows_of iC_len _) (by decide) _ (by simp)) true (by simp))
  clear hO1 hT1 hb0 hb1 C0
  go_wp2_with fail
  refine E1.out.mono ?_
  rintro e v2 ⟨rfl, hb2⟩
  have HB2 := Lib.hid (below_on (HB1.out.trans (((Below.refl _ _).alloc (by have := HB1.out.size; exact this) _).alloc (by have := HB1.out.size; simp; omega) _)) hb2)
  clear HB1 hb2 E1
  have d0 := withI_bd x0 16 (by omega)
  have d1 := withI_bd x1 60 (by omega)
  go_wp2_with fail
  refine (within_int x0 16 _ b0 (by omega) (by omega)).mono ?_
  rintro e v3 ⟨rfl, rfl⟩
  generalize withI x0 16 = K0 at *
  obtain ⟨K0, rfl⟩ := Int.eq_ofNat_of_zero_le d0.1
  go_wp2_with fail
  refine (within_int x1 60 _ b1 (by omega) (by omega)).mono ?_
  rintro e v4 ⟨rfl, rfl⟩
  generalize withI x1 60 = N at *
  obtain ⟨N, rfl⟩ := Int.eq_ofNat_of_zero_le d1.1
  obtain ⟨k, hk⟩ : ∃ k : Nat, (1 + (K0 : Int)) = (k : Int) := ⟨1 + K0, by simp⟩
  rw [hk]
  have hk1 : 1 ≤ k := by omega
  have hk2 : k ≤ 16 := by omega
  have hN : N < 60 := by omega
  clear d0 d1 hk
  have HP0 := Lib.hid (PVar.new (wr := v2) k 0 HB2.out)
  have HG0 : Hid (Good k 0 []) := Lib.hid ⟨by simp, by simp, by simp⟩
  go_wp2_with fail
  generalize hW4 : (v2.alloc (Obj.cells #[Value.int IntKind.i64 k, Value.int IntKind.i64 0, Value.slice none 0 0] 24)) = W4 at *
  generalize hBB : v2.heap.size = B at *
  clear hW4 hBB HB2
  go_loopg [41] N (fun g i wr => ∃ (j : Nat) (v : Value) (L : List Int), j + g = N ∧ i = .int .i64 j ∧ Hid (PVar w wr B k j v L) ∧ Hid (Good k j L))
  case atStart => exact ⟨0, _, [], by omega, rfl, HP0, HG0⟩
  case round =>
    clear HP0 HG0
    obtain ⟨j, v, L, hj0, rfl, HP, HG⟩ := hrel
    have HJ := Lib.hid hj0
    have hj : j ≤ N := by omega
    clear hj0
    obtain ⟨wo, hwo⟩ : ∃ wo, wo = wr := ⟨_, rfl⟩
    subst hwo
    by_cases hlt : j < N
    · go_upto_if 47 with fail
      go_cut [11] (fun s wx => ∃ d : Nat, s = .int .i64 d ∧ d ≤ j ∧ wx = wo)
      case first =>
        by_cases hdr : j < dl
        · obtain ⟨z, hz⟩ : ∃ z, DS[j]? = some z := ⟨_, List.getElem?_eq_getElem (by rw [LD.out]; exact hdr)⟩
          obtain ⟨b3, o3, ha, hbs, c3⟩ := HTD.out.one HP.out.bel (map_get hz)
          have hwz := wf_i64 (HOD.out z (List.mem_of_getElem? hz))
          subst ha
          clear hz
          have HW := Lib.hid (fun w => within_int z ((j : Int) + 1) w hwz (by omega) (by omega))
          have bz := withI_bd z ((j : Int) + 1) (by omega)
          generalize withI z ((j : Int) + 1) = dd at *
          obtain ⟨dd, rfl⟩ := Int.eq_ofNat_of_zero_le bz.1
          go_wp2_with fail
          refine (HW.out _).mono ?_
          rintro e v5 ⟨rfl, rfl⟩
          go_wp2_with fail
          go_meet
          case rel => exact ⟨dd, rfl, by omega, rfl⟩
        · have hdr' : dl ≤ j := by omega
          clear hdr
          go_wp2_with fail
          go_meet
          case rel => exact ⟨0, rfl, by omega, rfl⟩
      case rest =>
      obtain ⟨d, rfl, hd, rfl⟩ := hcut
      obtain ⟨wo, hwo⟩ : ∃ wo, wo = wc := ⟨_, rfl⟩
      subst hwo
      obtain ⟨HGN, HGM⟩ := good_next (d := d) HG.out hk1
      obtain ⟨al, lcap, rfl, hTl⟩ := HP.out.own.tab
      have hLl : (L.map iC).length = L.length := List.length_map ..
      rw [hLl] at hTl HP
      obtain ⟨len, hlen⟩ : ∃ len, L.length = len := ⟨_, rfl⟩
      rw [hlen] at hTl HP
      have HLEN := Lib.hid hlen
      have hlm : len = min k j := hlen.symm.trans HG.out.1
      have hl16 : len ≤ 16 := by omega
      have hE : putE k j len d = 0 := by
        by_cases h : j < k
        · rw [show len = j from by omega]; exact putE_part hk1 hk2 h (by omega) (by omega)
        · rw [show len = k from by omega]; exact putE_full hk1 hk2 (by omega) (by omega) (by omega) (by omega)
      have C5 := Lib.hid (put_ok k j al len lcap L j d wo hTl hE)
      have HGN := Lib.hid HGN
      have HGM := Lib.hid HGM
      have HTL := Lib.hid hTl
      unfold pondV at C5
      generalize pondL k j L j d = I at *
      obtain ⟨⟨c0, c1, c2⟩, f0, f1, f2⟩ := pond_cells HP.out.blk
      clear hTl hLl hlen hlm hE
      go_wp2_with fail
      refine C5.out.mono ?_
      rintro e w1 ⟨s5, rfl, hO5, hb5⟩
      obtain ⟨q5, cap5, rfl, hT5⟩ := hO5.tab
      have hIl : (I.map iC).length = I.length := List.length_map ..
      rw [hIl] at hT5 hO5 ⊢
      obtain ⟨nI, hnI⟩ : ∃ nI, I.length = nI := ⟨_, rfl⟩
      rw [hnI] at hT5 hO5 ⊢
      have HNI := Lib.hid hnI
      have hni : nI = min k (j + 1) := hnI.symm.trans HGN.out.1
      have HNM := Lib.hid hni
      have hnI16 : nI ≤ 16 := by omega
      have hck : pondE k ((j : Int) + 1) nI = 0 := by
        unfold pondE
        rw [if_neg (by omega), if_pos (by omega)]
      clear hni
      have hbB := HP.out.big
      have hs5 : wo.heap.size ≤ w1.heap.size := hb5.size
      have HP1 := Lib.hid ((HP.out.below hb5).alloc (.cells #[.int .i64 k, .int .i64 ((j : Int) + 1), .slice q5 nI cap5] 24))
      have HXB : Hid ((w1.alloc (.cells #[.int .i64 k, .int .i64 ((j : Int) + 1), .slice q5 nI cap5] 24)).heap[w1.heap.size]? = some (.cells #[.int .i64 k, .int .i64 ((j : Int) + 1), .slice q5 nI cap5] 24 (0, 0))) := Lib.hid (MapKept.heap_alloc _ _).1
      have HT5 := Lib.hid (hT5.below ((Below.refl _ _).alloc (Nat.le_refl _) (.cells #[.int .i64 k, .int .i64 ((j : Int) + 1), .slice q5 nI cap5] 24)))
      have HO5 := Lib.hid (hO5.alloc (.cells #[.int .i64 k, .int .i64 ((j : Int) + 1), .slice q5 nI cap5] 24))
      have HTL1 := Lib.hid ((HTL.out.below hb5).below ((Below.refl _ _).alloc (Nat.le_refl _) (.cells #[.int .i64 k, .int .i64 ((j : Int) + 1), .slice q5 nI cap5] 24)))
      have HCk := Lib.hid (fun W => pcheck_any k ((j : Int) + 1) q5 nI cap5 W)
      rw [hck] at HCk
      unfold pondV at HCk
      clear hck hT5 hO5 hb5 hIl hnI C5 c0 c1 c2 f0 f1 f2 HP HTL
      go_upto_region 13 with fail
      generalize hW1 : w1.alloc (.cells #[.int .i64 k, .int .i64 ((j : Int) + 1), .slice q5 nI cap5] 24) = W1 at *
      generalize hXX : w1.heap.size = X at *
      clear hW1 hXX
      go_cut [86] (fun s wx => s = .bool false ∧ Hid (Below W1.heap.size W1 wx))
      case first =>
        obtain ⟨⟨e0, e1, e2⟩, _, _, _⟩ := pond_cells HXB.out
        have t0 : (((j : Int) + 1) != ((j : Int) + 1)) = false := by simp
        by_cases hjk : (j : Int) + 1 < (k : Int)
        · have tA : ((nI : Int) != (j : Int) + 1) = false := by have := HNM.out; rw [bne_eq_false_iff_eq]; omega
          go_wp2_with fail
          refine (HCk.out _).mono ?_
          rintro e w3 ⟨rfl, hb3⟩
          go_wp2_with fail
          go_meet
          case rel => exact ⟨rfl, Lib.hid hb3⟩
        · have hjk' : (k : Int) ≤ (j : Int) + 1 := by omega
          have tB : ((nI : Int) != (k : Int)) = false := by have := HNM.out; rw [bne_eq_false_iff_eq]; omega
          clear hjk
          go_wp2_with fail
          refine (HCk.out _).mono ?_
          rintro e w3 ⟨rfl, hb3⟩
          go_wp2_with fail
          go_meet
          case rel => exact ⟨rfl, Lib.hid hb3⟩
      case rest =>
      obtain ⟨rfl, HB3⟩ := hcut
      obtain ⟨w3, hw3⟩ : ∃ w3, w3 = wc := ⟨_, rfl⟩
      subst hw3
      have HP3 := Lib.hid (HP1.out.below HB3.out)
      have HX3 := Lib.hid (keep_blk HB3.out HXB.out)
      have HT3 := Lib.hid (HT5.out.below HB3.out)
      have HO3 := Lib.hid (HO5.out.below HB3.out)
      have HTL3 := Lib.hid (HTL1.out.below HB3.out)
      clear HP1 HXB HT5 HO5 HTL1 HB3 HCk
      have hmm := @run_makeMap Try.prog
      obtain ⟨w4, hput, hI4, hg4⟩ := (ownsInts_made Try.prog 3 4 w3).put lawI Try.underlying48 Try.underlying4 (by unfold maxLen; omega) (keyI j (by omega))
      have hb4 : Below w3.heap.size w3 w4 := ((Below.refl w3.heap.size w3).alloc (Nat.le_refl _) _).grown hg4 (by simp) (fun q hq => by cases hq; exact Nat.le_refl _)
      have HI4 := Lib.hid hI4
      have HB4 := Lib.hid hb4
      obtain ⟨⟨c0, c1, c2⟩, f0, f1, f2⟩ := pond_cells (HP3.out.below hb4).blk
      clear hI4 hg4 hb4
      go_wp2_with fail
      clear hmm hput c0 c1 c2 f0 f1 f2
      go_loopg [93] len (fun g i wr => ∃ (m : Nat) (ks : List Int), m + g = len ∧ i = .int .i64 m ∧ Hid (OwnsInts Try.prog 3 4 wr w3.heap.size (m + 1) ks) ∧ Hid (∀ z : Int, z ∈ ks ↔ z = (j : Int) ∨ z ∈ L.take m) ∧ Hid (Below w3.heap.size w3 wr))
      case atStart => exact ⟨0, _, by omega, rfl, HI4, Lib.hid (fun z => by simp), HB4⟩
      case round =>
        clear HI4 HB4
        obtain ⟨m, ks, hm0, rfl, HI, HK, HB⟩ := hrel
        have HM := Lib.hid hm0
        have hm : m ≤ len := by omega
        clear hm0
        obtain ⟨wl, hwl⟩ : ∃ wl, wl = wr := ⟨_, rfl⟩
        subst hwl
        by_cases hml : m < len
        · obtain ⟨y, hy⟩ : ∃ y, L[m]? = some y := ⟨_, List.getElem?_eq_getElem (by rw [HLEN.out]; exact hml)⟩
          obtain ⟨b1, o1, ha, hbs, cy⟩ := HTL3.out.one HB.out (map_get hy)
          have hyb := HG.out.2.2 y (List.mem_of_getElem? hy)
          have HKY := Lib.hid (keyI y (by omega))
          have HY := Lib.hid (take_put' hy)
          subst ha
          clear hy hyb
          go_wp2_with (at_mapUpdate; refine wpList_putInt _ rfl _ _ _ 48 rfl 3 4 lawI Try.underlying48 Try.underlying4 w3.heap.size (m + 1) ks rfl HI.out (by unfold maxLen; omega) y rfl rfl HKY.out ?_; intro w6 hI6 hg6)
          go_roundg (len - (m + 1))
          case measure => have := HM.out; omega
          case rel =>
            refine ⟨m + 1, _, by omega, by go_num, Lib.hid hI6, Lib.hid (fun z => ?_), Lib.hid (HB.out.grown hg6 HB.out.size (fun q hq => by cases hq; exact Nat.le_refl _))⟩
            rw [List.mem_cons, HK.out z, HY.out, List.mem_append, List.mem_singleton]
            constructor
            · rintro (h | h | h)
              · exact Or.inr (Or.inr h)
              · exact Or.inl h
              · exact Or.inr (Or.inl h)
            · rintro (h | h | h)
              · exact Or.inr (Or.inl h)
              · exact Or.inr (Or.inr h)
              · exact Or.inl h
        · obtain rfl : m = len := by omega
          have HK2 : Hid (∀ z : Int, z ∈ ks ↔ (z = (j : Int) ∨ z ∈ L) ∧ z ∉ I.take 0) := by
            refine Lib.hid (fun z => ?_)
            rw [HK.out z, List.take_of_length_le (by rw [HLEN.out]; exact Nat.le_refl _)]
            simp
          obtain ⟨⟨c0, c1, c2⟩, f0, f1, f2⟩ := pond_cells (keep_blk HB.out HX3.out)
          clear HK HM hm hml
          go_wp2_with fail
          clear c0 c1 c2 f0 f1 f2
          go_loopg [103] nI (fun g i wr => ∃ (q : Nat) (ks : List Int), q + g = nI ∧ i = .int .i64 q ∧ Hid (OwnsInts Try.prog 3 4 wr w3.heap.size (m + 1) ks) ∧ Hid (∀ z : Int, z ∈ ks ↔ (z = (j : Int) ∨ z ∈ L) ∧ z ∉ I.take q) ∧ Hid (Below w3.heap.size w3 wr))
          case atStart => exact ⟨0, _, by omega, rfl, HI, HK2, HB⟩
          case round =>
            clear HI HK2 HB
            obtain ⟨q, ks, hq0, rfl, HI, HK, HB⟩ := hrel
            have HQ := Lib.hid hq0
            have hq : q ≤ nI := by omega
            clear hq0
            obtain ⟨wq, hwq⟩ : ∃ wq, wq = wr := ⟨_, rfl⟩
            subst hwq
            by_cases hql : q < nI
            · obtain ⟨y, hy⟩ : ∃ y, I[q]? = some y := ⟨_, List.getElem?_eq_getElem (by rw [HNI.out]; exact hql)⟩
              obtain ⟨b1, o1, ha, hbs, cy⟩ := HT3.out.one HB.out (map_get hy)
              have hyb := HGN.out.2.2 y (List.mem_of_getElem? hy)
              have HKY := Lib.hid (keyI y (by omega))
              have hin : y ∈ ks := (HK.out y).2 ⟨HGM.out y (List.mem_of_getElem? hy), not_before HGN.out.2.1 hy⟩
              have hlook := HI.out.look lawI Try.underlying48 Try.underlying4 (zeroB _) HKY.out
              rw [decide_eq_true hin] at hlook
              have HY := Lib.hid (take_put' hy)
              subst ha
              clear hy hyb hin
              go_wp2_with (at_delete; refine wpList_delInt _ rfl _ _ 48 3 rfl 4 lawI Try.underlying48 w3.heap.size (m + 1) ks rfl HI.out y rfl HKY.out ?_; intro w6 hI6 hg6)
              go_roundg (nI - (q + 1))
              case measure => have := HQ.out; omega
              case rel =>
                refine ⟨q + 1, _, by omega, by go_num, Lib.hid hI6, Lib.hid (fun z => ?_), Lib.hid (HB.out.grown hg6 HB.out.size (fun q hq => by cases hq; exact Nat.le_refl _))⟩
                rw [List.mem_filter, HK.out z, HY.out, List.mem_append, List.mem_singleton]
                simp only [decide_eq_true_eq]
                constructor
                · rintro ⟨⟨h1, h2⟩, h3⟩
                  exact ⟨h1, fun h => h.elim h2 h3⟩
                · rintro ⟨h1, h2⟩
                  exact ⟨⟨h1, fun h => h2 (Or.inl h)⟩, fun h => h2 (Or.inr h)⟩
            · obtain rfl : q = nI := by omega
              obtain ⟨⟨c0, c1, c2⟩, f0, f1, f2⟩ := pond_cells (keep_blk HB.out HX3.out)
              obtain ⟨⟨e0, e1, e2⟩, r0, r1, r2⟩ := pond_cells (HP3.out.below HB.out).blk
              have HPS := Lib.hid ((HP3.out.below HB.out).set (K' := k) (S' := (j : Int) + 1) (HO3.out.below HB.out) hbB)
              go_wp2_with fail
              go_roundg (N - (j + 1))
              case measure => have := HJ.out; omega
              case rel => exact ⟨j + 1, _, I, by omega, by go_num, HPS, HGN⟩
    · go_wp2
      go_ret
      exact ⟨rfl, HP.out.bel⟩

set_option maxRecDepth 100000 in
theorem lifted (os : Os) (started : os.Started) (H : Type) (enc : TypeId × Value → H) :
    ReturnsInHanded {} Try.checked os 6 .any (Rows.pondKeepsSpec.pre6 enc Try.prog Try.f6 Rows.pondKeepsRow.domain false) (Rows.pondKeepsSpec.post enc Try.prog Try.f6 false true false false) := by
  refine returnsInHanded_of_change_sized (C := Try.checked) own started (by kernel_rfl) Try.func6
    (ChangeSpec.witness6 (enc := enc) (C := Try.checked) false ⟨#[], #[.int .i64 0, .int .i64 0, .slice none 0 0], []⟩ 8 (by kernel_rfl) (by kernel_rfl) (by kernel_rfl) (by kernel_rfl)) ?_
  intro W base args ds gs before hval0 hW hcnd hsz0 _
  have hval : ∀ (j : Nat) t v, Try.f6.params[j]? = some t → args[j]? = some v → Value.okWide Try.prog W .any base t v := hval0
  have hW' := hW
  obtain ⟨p, q, hA0, hV, rfl, hfz, hnd⟩ := hW
  have hA : DataW.TrodAll enc Try.prog W 0 (fun _ => true) true Try.f6.params.toList args.toList ds p := hA0
  have hsz : (DataW.weightsEach Try.prog (Try.f6.params.toList ++ Rows.pondKeepsSpec.plain.varTypes Try.prog) (ds ++ gs)).all (· ≤ reachBytes) = true := hsz0
  rw [Try.params6] at hA hval hsz
  obtain ⟨v0, vs0, d0, ds0, p0, q0, hargs, rfl, rfl, h0, r0⟩ := trodAll_cons hA
  obtain ⟨v1, vs1, d1, ds1, p1, q1, rfl, rfl, rfl, h1, r1⟩ := trodAll_cons r0
  obtain ⟨v2, vs2, d2, ds2, p2, q2, rfl, rfl, rfl, h2, r2⟩ := trodAll_cons r1
  obtain ⟨rfl, rfl, rfl⟩ := trodAll_nil r2
  obtain rfl : args = #[v0, v1, v2] := by cases args; simp_all
  obtain ⟨rfl, rfl⟩ := trodVars_none hV
  have k0 := h0
  have L0 := light_of hsz (j := 0) (t := 3) (d := d0) rfl rfl
  have lt0 : ∀ x ∈ p0, x.block < W.heap.size := by obtain ⟨m, hm⟩ := k0; exact DataW.trod_lt m _ _ _ hm
  obtain ⟨x0, rfl, rfl, rfl, w0⟩ := open_int Try.underlying3 (hval 0 3 v0 rfl rfl) h0
  have k1 := h1
  have L1 := light_of hsz (j := 1) (t := 3) (d := d1) rfl rfl
  have lt1 : ∀ x ∈ p1, x.block < W.heap.size := by obtain ⟨m, hm⟩ := k1; exact DataW.trod_lt m _ _ _ hm
  obtain ⟨x1, rfl, rfl, rfl, w1⟩ := open_int Try.underlying3 (hval 1 3 v1 rfl rfl) h1
  have k2 := h2
  have L2 := light_of hsz (j := 2) (t := 22) (d := d2) rfl rfl
  have lt2 : ∀ x ∈ p2, x.block < W.heap.size := by obtain ⟨m, hm⟩ := k2; exact DataW.trod_lt m _ _ _ hm
  obtain ⟨a2, len2, cap2, rfl⟩ := okWide_slice Try.underlying22 (hval 2 22 v2 rfl rfl)
  obtain ⟨n2, f2⟩ := trod_slice_of Try.underlying22 h2
  have F2 := And.intro f2 L2
  obtain ⟨x2, e2, t2, b2, o2⟩ := el_slice (w := W) (k := 1) iC wfI (by decide) Try.underlying22 (by kernel_rfl) (el_int Try.underlying3) (B := 8) (by kernel_rfl) _ _ _ F2.1 F2.2
  simp only [slC, List.cons.injEq, Value.slice.injEq, and_true] at e2
  obtain ⟨rfl, rfl, rfl⟩ := e2
  clear hA0 hval0
  refine (walk x0 x1 x2 W w0 w1 t2 b2 o2).mono fun e W' ⟨he, hg⟩ => ?_
  subst he
  exact ⟨_, rfl, _, _, _, [], _, [], hW', trodAll_mk1 (shut_bool Try.underlying4 _), (trodAll_cons_mk (Below.trod laidOut (by kernel_rfl) (of_decide_eq_true (by kernel_rfl)) k0 hg lt0) (trodAll_cons_mk (Below.trod laidOut (by kernel_rfl) (of_decide_eq_true (by kernel_rfl)) k1 hg lt1) (trodAll_cons_mk (Below.trod laidOut (by kernel_rfl) (of_decide_eq_true (by kernel_rfl)) k2 hg lt2) trodAll_mk0))), rfl, hg.frame _, fun h => by cases h⟩

theorem over : Rows.pondKeepsRow.holds Try.pinned (OpenSpec.ofChange Rows.pondKeepsSpec) :=
  OpenClaim.holds_of_wide 6 Try.f6 rfl rfl rfl rfl rfl rfl rfl ⟨rfl, rfl, rfl, rfl, rfl⟩ rfl rfl rfl rfl rfl (by kernel_rfl) Try.func6 (by kernel_rfl)
    (of_decide_eq_true (by kernel_rfl)) (by unfold Func.isWrapper; first | (rw [if_pos (by decide +kernel)]; kernel_rfl) | (rw [if_neg (by decide +kernel)]; exact ⟨rfl, rfl⟩))
    (fun os started H enc _ => lifted os started H enc)

/-- ████ THE STATEMENT ████ -/
theorem proved : Rows.PondKeepsSaid :=
  over
#print axioms proved
end Go.Proofs.Ytfndahcihmpmhaa.pondKeeps
