/- The contracts of the document's own answers on dealing: Draws, Deal. -/
import Derived.Test.YtanfkolcoaofdaaDigitDeal
import Derived.Test.YtanfkolcoaofdaaRefWithin
import Derived.Test.YtanfkolcoaofdaaOwnTwo
import Derived.Test.YtanfkolcoaofdaaSubSlice
import Derived.Deep.AppendLies
import Derived.Deep.RegionLaw
import Derived.Deep.RegionWith
import Derived.Deep.DeepCutAuto
namespace Go.Proofs.Ytanfkolcoaofdaa
open Go.ChangeShapes Go.WideShapes Go.ChangeAt Go.RowKit
open Digit

theorem size_intD (w : World) : (sizeOf 3).run Try.prog w = .ok 1 w := by kernel_rfl
theorem elem_intD : Try.prog.elem 22 = 3 := by kernel_rfl
set_option maxRecDepth 100000 in
set_option maxHeartbeats 1000000 in
theorem refDraws_any (a b : Option Addr) (la ca lb cb : Nat) (l d : List Int) (w : World) (h1 : Tab w a la ca 1 (l.map iC)) (h2 : Tab w b lb cb 1 (d.map iC)) :
    Calls Try.prog 24 #[.slice a la ca, .slice b lb cb] w fun e w' => e = .returned (.int .i64 (dealE l d)) ∧ w = w' := by
  have l1 := h1.hlen
  have l2 := h2.hlen
  have m1 := h1.hmax
  have e1 := h1.hle
  have m2 := h2.hmax
  have e2 := h2.hle
  rw [List.length_map] at l1 l2
  unfold maxLen at m1 m2
  by_cases h12 : 12 < la
  · have E : Hid (dealE l d = 2) := by unfold dealE; rw [if_pos (by omega)]; exact Lib.hid rfl
    clear h1 h2 l1 l2
    go_enter Try.func24, Try.ntmps24
    go_wp2
    go_ret
    exact ⟨ret_int E.out.symm, rfl⟩
  · by_cases hl : la = lb
    · subst hl
      have E : Hid (dealE l d = if drawsB 0 (d.drop 0) = true then 0 else 1) := by unfold dealE; rw [if_neg (by omega), if_neg (by omega)]; exact Lib.hid rfl
      have h12' : la ≤ 12 := by omega
      have t0 : ((la : Int) != (la : Int)) = false := by simp
      have H2 := Lib.hid h2
      have L2 := Lib.hid l2
      clear h1 h2 l1 l2
      go_enter Try.func24, Try.ntmps24
      go_wp2
      go_loopg [17] la (fun g i wr => wr = w ∧ ∃ k : Nat, k + g = la ∧ i = .int .i64 (k : Nat) ∧ Hid (dealE l d = if drawsB k (d.drop k) = true then 0 else 1))
      case atStart => exact ⟨rfl, 0, by omega, rfl, E⟩
      case round =>
        obtain ⟨rfl, k, hk0, rfl, HE⟩ := hrel
        clear E
        have HJ := Lib.hid hk0
        have hk : k ≤ la := by omega
        clear hk0
        by_cases hlt : k < la
        · obtain ⟨x, hx⟩ : ∃ x, d[k]? = some x := ⟨_, List.getElem?_eq_getElem (by rw [L2.out]; exact hlt)⟩
          obtain ⟨bb, off, ha, hbs, h0⟩ := H2.out.one (Below.refl _ _) (map_get hx)
          have hst := drawsB_step hx
          subst ha
          have W := within_ref x 0 (k : Int) wr
          clear hx
          cases hb : (decide (0 ≤ x) && decide (x ≤ (k : Int)))
          · have HF : Hid (dealE l d = 1) := by rw [HE.out, hst, hb]; exact Lib.hid rfl
            rw [hb] at W
            have W := Lib.hid W
            clear hb hst
            go_wp2_with fail
            refine W.out.mono ?_
            rintro e w1 ⟨rfl, rfl⟩
            go_wp2
            go_ret
            exact ⟨ret_int HF.out.symm, rfl⟩
          · have HF : Hid (dealE l d = if drawsB (k + 1) (d.drop (k + 1)) = true then 0 else 1) := by rw [HE.out, hst, hb, Bool.true_and]; exact Lib.hid rfl
            rw [hb] at W
            have W := Lib.hid W
            clear hb hst
            go_wp2_with fail
            refine W.out.mono ?_
            rintro e w1 ⟨rfl, rfl⟩
            go_wp2
            go_roundg (la - (k + 1))
            case measure => have := HJ.out; omega
            case rel => exact ⟨rfl, k + 1, by omega, by go_num, HF⟩
        · have HF : Hid (dealE l d = 0) := by rw [HE.out, List.drop_of_length_le (by rw [L2.out]; omega)]; exact Lib.hid rfl
          go_wp2
          go_ret
          exact ⟨ret_int HF.out.symm, rfl⟩
    · have E : Hid (dealE l d = 7) := by unfold dealE; rw [if_neg (by omega), if_pos (by omega)]; exact Lib.hid rfl
      have h12' : la ≤ 12 := by omega
      have t0 : ((la : Int) != (lb : Int)) = true := by rw [bne_iff_ne]; omega
      clear h1 h2 l1 l2 h12 hl
      go_enter Try.func24, Try.ntmps24
      go_wp2
      go_ret
      exact ⟨ret_int E.out.symm, rfl⟩

theorem step_append_rows {P : Program} (w : World) {ops : Array Oper} {o : Oper} {a : Act} {K : Act → World → Prop} {Q : Exit → Act → World → Prop} {E : Prop} (hgd : o.guard = none) (s x : Operand) (t : TypeId)
    (ho : o.op = .call { callee := .builtin .append, args := #[s, x], argTypes := #[t, t] })
    (base : Nat) (e : TypeId) (z : Value) (k bytes : Nat) (ht : P.underlying t = some (.slice e)) (hinfo : (P.info? e).map (fun i => (i.zero, i.size, i.bytes)) = some (some z, k, bytes)) (hzs : z.cells.size = k) (hsz : 0 < k)
    (v : Value) (R : List (List Value)) (hs : a.eval s = v) (hown : Own w base e k v R)
    (ad : Addr) (m c : Nat) (N : List (List Value)) (hm0 : 0 < m) (hm : N.length = m) (hx : a.eval x = .slice (some ad) m c) (hN : ∀ r ∈ N, r.length = k) (hnews : ∀ j u, N.flatten[j]? = some u → w.cell? (ad.add j) = some u) (h1 : ∀ u ∈ N.flatten, u.oneCell' = true)
    (h63 : (R.length + m) * bytes ≤ 140737488355328) (hby : 0 < bytes) (hbase : base ≤ w.heap.size)
    (h : ∀ g cap w', Own w' base e k (.slice (some ⟨g, 0, none⟩) (R.length + m) cap) (R ++ N) → w.grownBy w' v.ownBlock → K (a.put o.dst (.slice (some ⟨g, 0, none⟩) (R.length + m) cap)) w') :
    if Region.wanted o (yielded ops a.tmps) = true then Oper.wp P o a w K Q else E := by
  obtain ⟨i, hi, hz0, hz1, hz2⟩ := info_parts hinfo
  subst hm
  refine step_append_lies w hgd s x t ho base e i z k bytes ht hi hz0 hz1 hz2 hzs hsz v R.length R.flatten hs hown.own ad N.length c N.flatten hx (flatten_len hN) hnews h1 hm0 ?_ h63 hbase _ rfl ?_
  · have := Nat.le_trans (Nat.le_mul_of_pos_right (R.length + N.length) hby) h63
    unfold maxLen; omega
  · intro g cap w' h2 h3 _ _
    refine h g cap w' ⟨?_, ?_⟩ h3
    · rw [List.length_append, List.flatten_append]; exact h2
    · intro r hr
      rcases List.mem_append.1 hr with hr | hr
      · exact hown.rows r hr
      · exact hN r hr
theorem swap_comm {l : List Int} {i j : Nat} : swapAt l i j = swapAt l j i := by
  unfold swapAt
  by_cases h : i = j
  · subst h; rfl
  · rw [List.set_comm _ _ h]
theorem draws_take {d : List Int} (h : DrawsOk d) (k : Nat) : DrawsOk (d.take k) := by
  intro i x hx
  refine h i x ?_
  rw [List.getElem?_take] at hx
  split at hx
  · exact hx
  · cases hx
theorem deal_next {l d : List Int} {j : Nat} {x : Int} {y : Nat} (hl : l.length = j + 1) (hd : d.length = j + 1) (hok : DrawsOk d) (hx : l[j]? = some x) (hy : d[j]? = some (y : Int)) :
    dealTo l d (j + 1) = swapAt (dealTo (l.take j) (d.take j) j ++ [x]) y j := by
  have e : l = l.take j ++ [x] := by
    have := List.take_add_one (l := l) (i := j)
    rw [hx, ← hl, List.take_length] at this
    exact this
  have h1 : dealTo l d j = dealTo (l.take j) (d.take j) j ++ [x] := by
    rw [deal_same (l := l.take j) (d := d.take j) (e := d) j (fun k hk => by rw [List.getElem?_take_of_lt hk])]
    conv => lhs; rw [e]
    exact deal_app x hok (by rw [List.length_take]; omega) j (by rw [List.length_take]; omega)
  rw [dealTo, h1, hy, Option.getD_some, Int.toNat_natCast, swap_comm]
set_option maxRecDepth 100000 in
set_option maxHeartbeats 2000000 in
theorem refDeal_any : ∀ (n : Nat) (a b : Option Addr) (ca cb : Nat) (l d : List Int) (w : World), n ≤ 12 → Tab w a n ca 1 (l.map iC) → Tab w b n cb 1 (d.map iC) → DrawsOk d →
    Calls Try.prog 25 #[.slice a n ca, .slice b n cb] w (RetRows w 3 1 ((dealTo l d n).map iC))
  | 0, a, b, ca, cb, l, d, w, _, h1, _, _ => by
    have l1 := h1.hlen
    rw [List.length_map] at l1
    obtain rfl := List.length_eq_zero_iff.1 l1
    clear h1 l1
    have t0 : (((0 : Nat) : Int) == 0) = true := by simp
    go_enter Try.func25, Try.ntmps25
    go_wp2
    go_ret
    exact ⟨_, rfl, Own.nil _ _ _ _, Below.refl _ _⟩
  | j + 1, a, b, ca, cb, l, d, w, hn, h1, h2, hok => by
    have l1 := h1.hlen
    have l2 := h2.hlen
    have m1 := h1.hmax
    have e1 := h1.hle
    have m2 := h2.hmax
    have e2 := h2.hle
    rw [List.length_map] at l1 l2
    unfold maxLen at m1 m2
    obtain ⟨x, hx⟩ : ∃ x, l[j]? = some x := ⟨_, List.getElem?_eq_getElem (by omega)⟩
    obtain ⟨y', hy'⟩ : ∃ y, d[j]? = some y := ⟨_, List.getElem?_eq_getElem (by omega)⟩
    have hyb := hok j y' hy'
    obtain ⟨y, rfl⟩ := Int.eq_ofNat_of_zero_le hyb.1
    have hyj : y ≤ j := by omega
    have hnx := deal_next l1 l2 hok hx hy'
    have hdl := deal_len (l.take j) (d.take j) j
    rw [List.length_take, show min j l.length = j from by omega] at hdl
    have hu1 := h1.upto_ j (by omega)
    have hu2 := h2.upto_ j (by omega)
    rw [← List.map_take] at hu1 hu2
    have IH := Lib.hid (fun W (hW : Below w.heap.size w W) => refDeal_any j a b ca cb (l.take j) (d.take j) W (by omega) (hu1.below hW) (hu2.below hW) (draws_take hok j))
    obtain ⟨b1, o1, ha, hbs1, c1⟩ := h1.one (Below.refl _ _) (map_get hx)
    obtain ⟨b2, o2, hb', hbs2, c2⟩ := h2.one (Below.refl _ _) (map_get hy')
    subst ha hb'
    have HC1 : Hid (∀ W, Below w.heap.size w W → W.cell? ⟨b1, o1 + j, none⟩ = some (.int .i64 x)) := Lib.hid (fun W hW => (hW.cell (p := ⟨b1, o1 + j, none⟩) hbs1).trans c1)
    have HC2 : Hid (∀ W, Below w.heap.size w W → W.cell? ⟨b2, o2 + j, none⟩ = some (.int .i64 (y : Nat))) := Lib.hid (fun W hW => (hW.cell (p := ⟨b2, o2 + j, none⟩) hbs2).trans c2)
    have rU1 := run_upto 22 3 1 Try.underlying22 elem_intD size_intD (some ⟨b1, o1, none⟩) (j + 1) ca j (by omega)
    have rU2 := run_upto 22 3 1 Try.underlying22 elem_intD size_intD (some ⟨b2, o2, none⟩) (j + 1) cb j (by omega)
    have HNX := Lib.hid (And.intro hnx hdl)
    have q1 : (((j + 1 : Nat) : Int) - 1) = (j : Int) := by omega
    have t0 : (((j + 1 : Nat) : Int) == 0) = false := by rw [beq_eq_false_iff_ne]; omega
    clear h1 h2 hx hy' hyb hnx hdl hu1 hu2 l1 l2 hok c2
    generalize dealTo (l.take j) (d.take j) j = X at *
    have hXl : (X.map iC).length = j := by rw [List.length_map]; exact HNX.out.2
    generalize hJ1 : j + 1 = J1 at *
    have hJ2 : j < J1 := by omega
    have HJ1 := Lib.hid hJ1
    clear hJ1
    go_enter Try.func25, Try.ntmps25
    go_upto_region 4 with fail
    go_cut [6] (fun s wx => ∃ g c6, s = .slice (some ⟨g, 0, none⟩) J1 c6 ∧ Hid (Own wx w.heap.size 3 1 (.slice (some ⟨g, 0, none⟩) J1 c6) ((X ++ [x]).map iC) ∧ Below w.heap.size w wx))
    case first =>
      go_wp2_with fail
      go_region_law (first
        | (refine step_append_rows _ rfl _ _ 22 rfl w.heap.size 3 _ 1 8 Try.underlying22 info_int rfl (by decide) _ (X.map iC) (by simp [Act.eval, Act.put]) hO7 ⟨w.heap.size, 0, none⟩ 1 1 [[.int .i64 x]] (by decide) rfl (by simp [Act.eval, Act.put]) (by simp) hn7 (by simp [Value.oneCell']) (by omega) (by decide) (by omega) ?_; intro g6 c6 w6 hO6 hg6)
        | (go_simp; go_at_call 25; refine (IH.out (w.alloc (.cells #[.int .i64 x] 3)).drew (((Below.refl _ _).alloc (Nat.le_refl _) _).drew)).mono ?_; rintro e w7 ⟨v7, rfl, hO7', hb7⟩; have hO7 : Own w7 w.heap.size 3 1 v7 (X.map iC) := hO7'.base_le (by show w.heap.size ≤ (w.alloc (.cells #[.int .i64 x] 3)).heap.size; simp); have hbw7 : Below w.heap.size w w7 := below_on (((Below.refl _ _).alloc (Nat.le_refl _) _).drew) hb7; have hs7 := hbw7.size; have hn7 : ∀ j u, [[Value.int .i64 x]].flatten[j]? = some u → w7.cell? ((⟨w.heap.size, 0, none⟩ : Addr).add j) = some u := (fun jj u hj => (hb7.cell (by show ((⟨w.heap.size, 0, none⟩ : Addr).add jj).block < (w.alloc (.cells #[.int .i64 x] 3)).heap.size; rw [addr_add]; simp)).trans (one_row w [.int .i64 x] 3 w.heap.size rfl jj u hj)))
        | (go_simp; go_at_call 25; refine (IH.out w.drew (Below.refl _ _).drew).mono ?_; rintro e w5 ⟨v5, rfl, hO5', hb5⟩; have hO5 : Own w5 w.heap.size 3 1 v5 (X.map iC) := hO5'; have hbw5 : Below w.heap.size w w5 := below_on (Below.refl w.heap.size w).drew hb5; have hs5 := hbw5.size; have c5 := HC1.out w5 hbw5)
        | (refine step_append_rows _ rfl _ _ 22 rfl w.heap.size 3 _ 1 8 Try.underlying22 info_int rfl (by decide) _ (X.map iC) (by simp [Act.eval, Act.put]) (hO5.alloc _) ⟨w5.heap.size, 0, none⟩ 1 1 [[.int .i64 x]] (by decide) rfl (by simp [Act.eval, Act.put]) (by simp) (one_row _ _ _ _ (by simp)) (by simp [Value.oneCell']) (by omega) (by decide) (by simp; omega) ?_; intro g6 c6 w6 hO6 hg6))
      all_goals go_wp2_with fail
      all_goals go_meet
      all_goals have eX : X.map iC ++ [[Value.int .i64 x]] = (X ++ [x]).map iC := by rw [List.map_append]; rfl
      all_goals have eJ : (X.map iC).length + 1 = J1 := by rw [hXl, HJ1.out]
      all_goals rw [eX, eJ] at hO6
      all_goals first
        | exact ⟨g6, c6, by simp only [HJ1.out, eJ, hXl], Lib.hid ⟨hO6, (hO5.alloc (.cells #[.int .i64 x] 3)).under (hbw5.alloc hs5 _) (Nat.le_refl _) (by simp; omega) hg6⟩⟩
        | exact ⟨g6, c6, by simp only [HJ1.out, eJ, hXl], Lib.hid ⟨hO6, hO7.under hbw7 (Nat.le_refl _) hs7 hg6⟩⟩
    case rest =>
      obtain ⟨g, c6, rfl, HH⟩ := hcut
      have c2 := HC2.out wc HH.out.2
      have hy : (X ++ [x])[j]? = some x := by rw [List.getElem?_append_right (by rw [HNX.out.2]; omega), HNX.out.2, Nat.sub_self]; rfl
      obtain ⟨z, hz⟩ : ∃ z, (X ++ [x])[y]? = some z := ⟨_, List.getElem?_eq_getElem (by rw [List.length_append, HNX.out.2]; simp; omega)⟩
      obtain ⟨k1, f1, g1, g2⟩ := HH.out.1.at1 (map_get hz)
      obtain ⟨k2, f2, _, _⟩ := HH.out.1.at1 (map_get hy)
      have HS := Lib.hid (HH.out.1.swap hz hy)
      obtain ⟨v2, hv2⟩ := cell?_setCell_some (w := wc) (p := ⟨g, y, none⟩) (x := .int .i64 x) (q := ⟨g, j, none⟩) (v := .int .i64 x) k2
      have hyJ : y < J1 := by omega
      have HB : Hid (Below w.heap.size w ((wc.setCell ⟨g, y, none⟩ (.int .i64 x)).setCell ⟨g, j, none⟩ (.int .i64 z))) := Lib.hid ((HH.out.2.setCell g1 _).setCell g1 _)
      clear hy hz HH
      go_wp2
      go_ret
      exact ⟨_, rfl, by rw [HNX.out.1]; exact HS.out, HB.out⟩

end Go.Proofs.Ytanfkolcoaofdaa
