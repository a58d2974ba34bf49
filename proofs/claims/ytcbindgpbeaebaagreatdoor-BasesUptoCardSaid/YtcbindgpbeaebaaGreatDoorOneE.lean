import Derived.Test.YtcbindgpbeaebaaGreatDoorOneC
import Derived.Test.YtcbindgpbeaebaaGreatDoorOneD
import Derived.Test.YtcbindgpbeaebaaGreatDoorBooB
import Derived.Deep.RegionHeld3
import Derived.Deep.DeepCutAuto
import Derived.Test.YtcbindgpbeaebaaGreatDoorBooF
import Derived.Test.YtcbindgpbeaebaaGreatDoorPureL
namespace Go.Proofs.YtcbindgpbeaebaaGreatDoor
open Go.RowKit Go.Deep
attribute [local go_sem ↓] Go.wp_at_zero Go.wp_at_succ

/-- (Base).one -/
theorem one_any (w : World) (v : Value) (l : List Nd) (x : Dd) (h : NAt w v l) (hl : l.length ≤ 1000) (ho : OrdN l) (hpz : x.node.path.size ≤ 4611686018427387903) :
    Calls Tryz.prog 121 #[.agg #[v], ddV x] w (OnePost w (rOne l x)) := by
  obtain ⟨tk, n⟩ := x
  cases tk with
  | true => exact one_take w v l n h hl
  | false =>
    rcases h.2 with ⟨rfl, h0⟩ | ⟨g, cap, cur, rfl, _⟩
    · have : l = [] := List.eq_nil_of_length_eq_zero h0
      subst this
      exact one_put_nil w n h hpz
    · exact one_put_some w g cap l n h hl ho hpz
theorem insN_mem : ∀ (l : List Nd) (n y : Nd), y ∈ insN l n → y = n ∨ y ∈ l
  | [], n, y, h => by simp [insN] at h; exact .inl h
  | z :: r, n, y, h => by
    unfold insN at h
    split at h
    · rcases List.mem_cons.1 h with rfl | h
      · exact .inr (by simp)
      · rcases insN_mem r n y h with e | e
        · exact .inl e
        · exact .inr (by simp [e])
    · split at h
      · rcases List.mem_cons.1 h with rfl | h
        · exact .inl rfl
        · exact .inr (by simp [h])
      · rcases List.mem_cons.1 h with rfl | h
        · exact .inl rfl
        · exact .inr h
theorem insN_ord : ∀ (l : List Nd) (n : Nd), OrdN l → OrdN (insN l n)
  | [], n, _ => by unfold OrdN insN; simp
  | z :: r, n, h => by
    have ih := insN_ord r n (List.Pairwise.of_cons h)
    unfold insN
    split
    · next h1 =>
      refine List.Pairwise.cons (fun y hy => ?_) ih
      rcases insN_mem r n y hy with rfl | hy
      · exact h1
      · exact List.rel_of_pairwise_cons h hy
    · next h1 =>
      split
      · next h2 =>
        have e := cmpB_zero h2
        refine List.Pairwise.cons (fun y hy => ?_) (List.Pairwise.of_cons h)
        rw [← e]
        exact List.rel_of_pairwise_cons h hy
      · next h2 =>
        have h3 : cmpB n.path z.path < 0 := by rw [cmpB_swap]; omega
        refine List.Pairwise.cons (fun y hy => ?_) h
        rcases List.mem_cons.1 hy with rfl | hy
        · exact h3
        · exact cmpB_trans h3 (List.rel_of_pairwise_cons h hy)
theorem insN_len : ∀ (l : List Nd) (n : Nd), (insN l n).length ≤ l.length + 1
  | [], _ => by simp [insN]
  | z :: r, n => by
    have ih := insN_len r n
    unfold insN
    split
    · simp; omega
    · split <;> simp
theorem rOne_ord {l : List Nd} (x : Dd) (h : OrdN l) : OrdN (rOne l x).1 ∧ (rOne l x).1.length ≤ l.length + 1 := by
  unfold rOne
  split
  · split
    · exact ⟨h, by simp⟩
    · exact ⟨List.Pairwise.filter _ h, Nat.le_succ_of_le (List.length_filter_le _ _)⟩
  · split
    · exact ⟨h, by simp⟩
    · exact ⟨insN_ord l _ h, insN_len l _⟩

/-- The blocks of a call of the document's Do, which began at w0. -/
structure DoM (w0 w : World) (v : Value) (l : List Nd) : Prop where
  b0 : w.heap[w0.heap.size]? = some (.cells #[v] 30 (0, 0))
  b1 : w.heap[w0.heap.size + 1]? = some (.cells #[.slice none 0 0] 30 (0, 0))
  nat : NAt w v l
  bel : Below w0.heap.size w0 w
  sz : w0.heap.size + 2 ≤ w.heap.size
theorem DoM.below {w0 w w' : World} {v : Value} {l : List Nd} (h : DoM w0 w v l) (hb : Below w.heap.size w w') : DoM w0 w' v l := by
  have hs := h.sz
  exact ⟨(hb.block _ (by omega)).trans h.b0, (hb.block _ (by omega)).trans h.b1, h.nat.below hb, h.bel.trans (hb.mono (by omega)), by have := hb.size; omega⟩
theorem DoM.fin {w0 w : World} {v : Value} {l : List Nd} (h : DoM w0 w v l) {u : Value} {L : List Nd} (hu : NAt w u L) : NAt (w.setCell ⟨w0.heap.size + 1, 0, none⟩ u) u L ∧ Below w0.heap.size w0 (w.setCell ⟨w0.heap.size + 1, 0, none⟩ u) :=
  ⟨ownsRow_set hu _ (ownsRow_ne hu h.b1 (by decide)) u, h.bel.setCell (by simp) u⟩

theorem DoM.set {w0 w : World} {v : Value} {l : List Nd} (h : DoM w0 w v l) {bb : Nat} (hb : w0.heap.size + 2 ≤ bb) (u : Value) {c : Value} (hbb : w.heap[bb]? = some (.cells #[c] 30 (0, 0))) : DoM w0 (w.setCell ⟨bb, 0, none⟩ u) v l :=
  ⟨(Below.heap_setCell _ _ _ _ (by simp; omega)).trans h.b0, (Below.heap_setCell _ _ _ _ (by simp; omega)).trans h.b1, ownsRow_set h.nat _ (ownsRow_ne h.nat hbb (by decide)) u, h.bel.setCell (by simp; omega) u, by have := h.sz; simpa [World.setCell] using this⟩
theorem cell_set_far' (w : World) (a b : Addr) (v : Value) (h : ¬ b.block = a.block) : (w.setCell a v).cell? b = w.cell? b := World.cell?_of_block (w := w) (w' := w.setCell a v) (Below.heap_setCell w a v b.block h)
/-- Behind a deed. -/
def MidD (w : World) (v : Value) (l : List Nd) (b9 : Nat) (cv : Value) (r : List Nd × Int) (s11 s12 : Value) (wx : World) : Prop :=
  ∃ bb v2, s11 = .pointer (some ⟨bb, 0, none⟩) ∧ s12 = .int .i64 r.2 ∧ DoM w wx v l ∧ wx.heap[b9]? = some (.cells #[cv] 30 (0, 0)) ∧ wx.heap[bb]? = some (.cells #[v2] 30 (0, 0)) ∧ bb ≠ b9 ∧ w.heap.size + 2 ≤ bb ∧ NAt wx v2 r.1
set_option maxRecDepth 100000 in
set_option maxHeartbeats 6400000 in
/-- (Base).Do -/
theorem bDo_any (w : World) (v : Value) (l : List Nd) (dv : Value) (L : List Dd) (h : NAt w v l) (hl : l.length ≤ 60) (ho : OrdN l) (hd : DIn w dv L) (hL : L.length ≤ 2000000) (hpz : ∀ x ∈ L, x.node.path.size ≤ 4611686018427387903) :
    Calls Tryz.prog 81 #[.agg #[v], dv] w (OnePost w (rDo l L)) := by
  obtain ⟨ao, cap, hv⟩ := h.form
  subst hv
  obtain ⟨lo, lcap, hlv, hl0, _⟩ := id hd
  subst hlv
  obtain ⟨k0, k1, ks⟩ := heap_pair w (.cells #[.slice ao l.length cap] 30) (.cells #[.slice none 0 0] 30)
  have hm0 : DoM w ((w.alloc (.cells #[.slice ao l.length cap] 30)).alloc (.cells #[.slice none 0 0] 30)) (.slice ao l.length cap) l := ⟨k0, k1, (h.alloc _).alloc _, ((Below.refl _ _).alloc (Nat.le_refl _) _).alloc (by simp) _, by rw [ks]; omega⟩
  obtain ⟨r, hr⟩ : ∃ r, r = rDo l L := ⟨_, rfl⟩
  rw [← hr]
  have hok : decide ((L.length : Int) ≤ 12) = decide (L.length ≤ 12) := by rw [decide_eq_decide]; omega
  have HM0 := hide hm0
  have HD := hide hd
  have HR := hide hr
  have HO := hide ho
  have HPZ := hide hpz
  have HOK := hide hok
  clear k0 k1 ks hm0 h hd hr ho hpz hok
  go_enter Tryz.func81, Tryz.ntmps81
  go_wp2_with fail
  rw [unhide HOK]
  go_loopw [6, 7] (fun s6 s7 wr => ∃ k : Nat, k ≤ L.length ∧ s7 = .int .i64 k ∧ s6 = .bool (decide (L.length ≤ 12) && (L.take k).all okDeed) ∧ DoM w wr (.slice ao l.length cap) l) (fun _ s7 _ => L.length - (intOf s7).toNat)
  case atStart => exact ⟨0, Nat.zero_le _, rfl, by simp, unhide HM0⟩
  case round =>
    obtain ⟨k, hk, rfl, rfl, hm⟩ := hrel
    by_cases hlt : k < L.length
    · obtain ⟨x, hx⟩ : ∃ x, L[k]? = some x := ⟨L[k], List.getElem?_eq_getElem hlt⟩
      have hdr := ((unhide HD).below (Below.refl _ w))
      have hcell : ∃ b o, lo = some ⟨b, o, none⟩ ∧ ∀ j y, (ddC x)[j]? = some y → wr.cell? ⟨b, o + k * 6 + j, none⟩ = some y := by
        obtain ⟨ao', cap', e, _, hq⟩ := hdr
        simp only [Value.slice.injEq, true_and] at e
        obtain ⟨rfl, rfl⟩ := e
        obtain ⟨b, o, e1, e2, e3⟩ := hq k x hx
        exact ⟨b, o, e1, fun j y hy => (hm.bel.cell (p := ⟨b, o + k * 6 + j, none⟩) e2).trans (e3 j y hy)⟩
      obtain ⟨b, o, rfl, hc⟩ := hcell
      have c0 := hc 0 _ rfl
      have c1 := hc 1 _ rfl
      have c2 := hc 2 _ rfl
      have c3 := hc 3 _ rfl
      have c4 := hc 4 _ rfl
      have c5 := hc 5 _ rfl
      rw [Nat.add_zero] at c0
      have i0 : (0 : Int) ≤ (k : Int) := Int.natCast_nonneg _
      have i1 : (k : Int) < (L.length : Int) := by omega
      have hid := isDeed_any wr x ((unhide HPZ) x (List.mem_of_getElem? hx))
      unfold ddV at hid
      have HID := hide hid
      have HN := hide (show (L.take (k + 1)).all okDeed = ((L.take k).all okDeed && okDeed x) by rw [List.take_add_one, hx, List.all_append]; simp)
      have HM := hide hm
      clear hc hid hx hm hdr
      cases hb1 : (decide (L.length ≤ 12) && (L.take k).all okDeed)
      · have HB1 := hide hb1
        clear hb1
        go_wp2_with fail
        refine (unhide HID).mono ?_
        rintro e w2 ⟨rfl, hb2⟩
        have HM2 := hide ((unhide HM).below hb2)
        clear hb2
        go_wp2_with fail
        go_roundw
        case rel => exact ⟨k + 1, by omega, by go_num, by rw [unhide HN, ← Bool.and_assoc, unhide HB1]; rfl, unhide HM2⟩
        case measure => simp [intOf]; omega
      · have HB1 := hide hb1
        clear hb1
        go_wp2_with fail
        refine (unhide HID).mono ?_
        rintro e w2 ⟨rfl, hb2⟩
        have HM2 := hide ((unhide HM).below hb2)
        clear hb2
        go_wp2_with fail
        go_roundw
        case rel => exact ⟨k + 1, by omega, by go_num, by rw [unhide HN, ← Bool.and_assoc, unhide HB1]; rfl, unhide HM2⟩
        case measure => simp [intOf]; omega
    · have hkk : L.take k = L := List.take_of_length_le (by omega)
      have i1 : ¬ ((k : Int) < (L.length : Int)) := by omega
      rw [hkk]
      have e0 : (decide (L.length ≤ 12) && L.all okDeed) = okDeeds L := rfl
      rw [e0]
      clear e0 hkk
      obtain ⟨c0, z0⟩ := one_cell hm.b0
      obtain ⟨c1, z1⟩ := one_cell hm.b1
      cases hokd : okDeeds L
      · have HRR := hide (show r = (l, 1) by rw [unhide HR]; unfold rDo; rw [hokd]; rfl)
        have HM := hide hm
        clear hokd hm
        go_wp2_with fail
        have hfin := (unhide HM).fin (unhide HM).nat
        refine bodyPost_ret (v := .tuple #[.agg #[.slice ao l.length cap], .int .i64 1]) ?_ rfl ⟨.slice ao l.length cap, by rw [unhide HRR], by rw [unhide HRR]; exact hfin.1, hfin.2⟩
        simp [results, Tryz.f81, go_sem, c1]
      · have HRR := hide (show r = rAll l l L by rw [unhide HR]; unfold rDo; rw [hokd]; rfl)
        obtain ⟨h12, hall⟩ := okDeeds_all hokd
        have HM := hide hm
        clear hokd hm
        go_wp2_with fail
        have hnew := heap_alloc_new wr (.cells #[.slice ao l.length cap] 30)
        have hmA := (unhide HM).below (below_new wr (.cells #[.slice ao l.length cap] 30))
        have hb3 : w.heap.size + 2 ≤ wr.heap.size := (unhide HM).sz
        generalize hb9 : wr.heap.size = b9 at hnew hb3 ⊢
        have HS := hide (show ∃ (j : Nat) (cv : Value) (cur : List Nd), j ≤ L.length ∧ Value.int .i64 0 = .int .i64 j ∧ DoM w (wr.alloc (.cells #[.slice ao l.length cap] 30)) (.slice ao l.length cap) l ∧ (wr.alloc (.cells #[.slice ao l.length cap] 30)).heap[b9]? = some (.cells #[cv] 30 (0, 0)) ∧ NAt (wr.alloc (.cells #[.slice ao l.length cap] 30)) cv cur ∧ OrdN cur ∧ cur.length ≤ 60 + j ∧ rAll l l L = rAll l cur (L.drop j) from ⟨0, .slice ao l.length cap, l, Nat.zero_le _, rfl, hmA, hnew, hmA.nat, unhide HO, by omega, rfl⟩)
        clear hnew hmA
        go_loopw [10] (fun s10 wx => ∃ (j : Nat) (cv : Value) (cur : List Nd), j ≤ L.length ∧ s10 = .int .i64 j ∧ DoM w wx (.slice ao l.length cap) l ∧ wx.heap[b9]? = some (.cells #[cv] 30 (0, 0)) ∧ NAt wx cv cur ∧ OrdN cur ∧ cur.length ≤ 60 + j ∧ rAll l l L = rAll l cur (L.drop j)) (fun s10 _ => L.length - (intOf s10).toNat)
        case atStart => exact unhide HS
        case round =>
          obtain ⟨j, cv, cur, hj, rfl, hm, h9, hcv, hco, hcl, hra⟩ := hrel
          obtain ⟨co, ccap, hcf⟩ := hcv.form
          subst hcf
          clear c0 z0 c1 z1
          obtain ⟨c0, z0⟩ := one_cell hm.b0
          obtain ⟨c1, z1⟩ := one_cell hm.b1
          obtain ⟨c9, z9⟩ := one_cell h9
          by_cases hlt : j < L.length
          · obtain ⟨x, hx⟩ : ∃ x, L[j]? = some x := ⟨L[j], List.getElem?_eq_getElem hlt⟩
            have hcell : ∃ b o, lo = some ⟨b, o, none⟩ ∧ b < w.heap.size ∧ ∀ t y, (ddC x)[t]? = some y → wr.cell? ⟨b, o + j * 6 + t, none⟩ = some y := by
              obtain ⟨ao', cap', e, _, hq⟩ := unhide HD
              simp only [Value.slice.injEq, true_and] at e
              obtain ⟨rfl, rfl⟩ := e
              obtain ⟨b, o, e1, e2, e3⟩ := hq j x hx
              exact ⟨b, o, e1, e2, fun t y hy => (hm.bel.cell (p := ⟨b, o + j * 6 + t, none⟩) e2).trans (e3 t y hy)⟩
            obtain ⟨b, o, rfl, hbw, hc⟩ := hcell
            have d0 := hc 0 _ rfl
            have d1 := hc 1 _ rfl
            have d2 := hc 2 _ rfl
            have d3 := hc 3 _ rfl
            have d4 := hc 4 _ rfl
            have d5 := hc 5 _ rfl
            rw [Nat.add_zero] at d0
            have j0 : (0 : Int) ≤ (j : Int) := Int.natCast_nonneg _
            have j1 : (j : Int) < (L.length : Int) := by omega
            have hone := fun (W : World) (hW : NAt W (.slice co cur.length ccap) cur) => one_any W (.slice co cur.length ccap) cur x hW (by omega) hco ((unhide HPZ) x (List.mem_of_getElem? hx))
            unfold ddV at hone
            have hdrop : L.drop j = x :: L.drop (j + 1) := by
              have e := (List.getElem?_eq_some_iff.1 hx).2
              rw [← e, List.getElem_cons_drop]
            have hra1 : (rOne cur x).2 ≠ 0 → r = (l, (rOne cur x).2) := fun h => by rw [unhide HRR, hra, hdrop]; unfold rAll; rw [if_pos h]
            have hra2 : (rOne cur x).2 = 0 → rAll l l L = rAll l (rOne cur x).1 (L.drop (j + 1)) := fun h => by
              rw [hra, hdrop]
              have e : rAll l cur (x :: L.drop (j + 1)) = if (rOne cur x).2 ≠ 0 then (l, (rOne cur x).2) else rAll l (rOne cur x).1 (L.drop (j + 1)) := rfl
              rw [e, if_neg (by simp [h])]
            have hor := rOne_ord x hco
            have HOR := hide hor
            have HA1 := hide hra1
            have HA2 := hide hra2
            have HON := hide hone
            have HM := hide hm
            have H9 := hide h9
            have HCV := hide hcv
            have hb9 : b9 < wr.heap.size := lt_of_heap h9
            have hbr : b < wr.heap.size := Nat.lt_of_lt_of_le hbw hm.bel.size
            have hsz := hm.sz
            clear hc hone hdrop hra1 hra2 hor hm h9 hcv hra hx
            go_wp2_with fail
            go_cut [11, 12] (fun s11 s12 wx => MidD w (.slice ao l.length cap) l b9 (.slice co cur.length ccap) (rOne cur x) s11 s12 wx)
            case first =>
              have m9 : ¬ b9 = wr.heap.size := by omega
              have mb : ¬ b = wr.heap.size := by omega
              go_region_held3 (fun w' => w'.cell? ⟨b9, 0, none⟩ = some (.slice co cur.length ccap) ∧ w'.cell? ⟨b, o + j * 6, none⟩ = some (.bool x.take) ∧ w'.cell? ⟨b, o + j * 6 + 1, none⟩ = some (.string x.node.path) ∧ w'.cell? ⟨b, o + j * 6 + 2, none⟩ = some (.int .i64 x.node.kind) ∧ w'.cell? ⟨b, o + j * 6 + 3, none⟩ = some (.int .i64 x.node.mode) ∧ w'.cell? ⟨b, o + j * 6 + 4, none⟩ = some (.int .i64 x.node.tag) ∧ w'.cell? ⟨b, o + j * 6 + 5, none⟩ = some (.string x.node.data)) (first | go_keep | exact ⟨(cell_set_far' _ _ _ _ (by assumption)).trans e9, (cell_set_far' _ _ _ _ (by assumption)).trans f0, (cell_set_far' _ _ _ _ (by assumption)).trans f1, (cell_set_far' _ _ _ _ (by assumption)).trans f2, (cell_set_far' _ _ _ _ (by assumption)).trans f3, (cell_set_far' _ _ _ _ (by assumption)).trans f4, (cell_set_far' _ _ _ _ (by assumption)).trans f5⟩) ((go_at_call 121; (first
                | (refine ((unhide HON) wr.drew (unhide HCV).drew).mono ?_; rintro e w2 ⟨v2, rfl, hn2, hb2⟩; obtain ⟨vo, vc, hvf⟩ := hn2.form; subst hvf; have e9 := (hb2.cell (p := ⟨b9, 0, none⟩) hb9).trans c9; have f0 := (hb2.cell (p := ⟨b, o + j * 6, none⟩) hbr).trans d0; have f1 := (hb2.cell (p := ⟨b, o + j * 6 + 1, none⟩) hbr).trans d1; have f2 := (hb2.cell (p := ⟨b, o + j * 6 + 2, none⟩) hbr).trans d2; have f3 := (hb2.cell (p := ⟨b, o + j * 6 + 3, none⟩) hbr).trans d3; have f4 := (hb2.cell (p := ⟨b, o + j * 6 + 4, none⟩) hbr).trans d4; have f5 := (hb2.cell (p := ⟨b, o + j * 6 + 5, none⟩) hbr).trans d5; have sw2 : wr.heap.size ≤ w2.heap.size := hb2.size; have n9 : ¬ b9 = w2.heap.size := (by omega); have nb : ¬ b = w2.heap.size := (by omega); have HN2 := hide hn2; have HB2 := hide hb2; clear hn2 hb2)
                | (have ls : wr.heap.size < (wr.alloc (.cells #[.slice none 0 0] 30)).drew.heap.size := (by show _ < (wr.alloc _).heap.size; simp); refine ((unhide HON) (wr.alloc (.cells #[.slice none 0 0] 30)).drew ((unhide HCV).alloc _).drew).mono ?_; rintro e w2 ⟨v2, rfl, hn2, hb2⟩; obtain ⟨vo, vc, hvf⟩ := hn2.form; subst hvf; have e9 := (hb2.cell (p := ⟨b9, 0, none⟩) (Nat.lt_trans hb9 ls)).trans ((World.cell?_of_block (Below.heap_alloc wr _ b9 hb9)).trans c9); have f0 := (hb2.cell (p := ⟨b, o + j * 6, none⟩) (Nat.lt_trans hbr ls)).trans ((World.cell?_of_block (Below.heap_alloc wr _ b hbr)).trans d0); have f1 := (hb2.cell (p := ⟨b, o + j * 6 + 1, none⟩) (Nat.lt_trans hbr ls)).trans ((World.cell?_of_block (Below.heap_alloc wr _ b hbr)).trans d1); have f2 := (hb2.cell (p := ⟨b, o + j * 6 + 2, none⟩) (Nat.lt_trans hbr ls)).trans ((World.cell?_of_block (Below.heap_alloc wr _ b hbr)).trans d2); have f3 := (hb2.cell (p := ⟨b, o + j * 6 + 3, none⟩) (Nat.lt_trans hbr ls)).trans ((World.cell?_of_block (Below.heap_alloc wr _ b hbr)).trans d3); have f4 := (hb2.cell (p := ⟨b, o + j * 6 + 4, none⟩) (Nat.lt_trans hbr ls)).trans ((World.cell?_of_block (Below.heap_alloc wr _ b hbr)).trans d4); have f5 := (hb2.cell (p := ⟨b, o + j * 6 + 5, none⟩) (Nat.lt_trans hbr ls)).trans ((World.cell?_of_block (Below.heap_alloc wr _ b hbr)).trans d5); have sw2 : wr.heap.size ≤ w2.heap.size := (by have h0 := hb2.size; have h1 : wr.heap.size + 1 ≤ w2.heap.size := (by simpa using h0); omega); have n9 : ¬ b9 = w2.heap.size := (by omega); have nb : ¬ b = w2.heap.size := (by omega); have HN2 := hide hn2; have HB2 := hide hb2; clear hn2 hb2; have bk := ((unhide HB2).block wr.heap.size ls).trans (heap_alloc_new wr _); obtain ⟨k0, kz⟩ := one_cell bk; have HBK := hide bk; clear bk))))
              all_goals
                go_wp2_with fail
                go_meet
              · have hb0 := unhide HB2
                have hb : Below wr.heap.size wr w2 := ⟨hb0.os, hb0.tape, hb0.output, hb0.size, hb0.block⟩
                exact ⟨w2.heap.size, _, rfl, rfl, ((unhide HM).below hb).below (below_new w2 _), (Below.heap_alloc _ _ _ (by omega)).trans ((hb.block b9 hb9).trans (unhide H9)), heap_alloc_new w2 _, fun e => n9 e.symm, by omega, (unhide HN2).alloc _⟩
              · have hb : Below (wr.alloc (.cells #[.slice none 0 0] 30)).heap.size (wr.alloc (.cells #[.slice none 0 0] 30)) w2 := ⟨(unhide HB2).os, (unhide HB2).tape, (unhide HB2).output, (unhide HB2).size, (unhide HB2).block⟩
                have hm2 := ((unhide HM).below (below_new wr _)).below hb
                have hbk := unhide HBK
                have h92 : w2.heap[b9]? = some (.cells #[.slice co cur.length ccap] 30 (0, 0)) := (hb.block b9 (by simp; omega)).trans ((Below.heap_alloc _ _ _ hb9).trans (unhide H9))
                exact ⟨wr.heap.size, _, rfl, rfl, hm2.set hsz _ hbk, (Below.heap_setCell _ _ _ _ m9).trans h92, heap_setCell_same w2 wr.heap.size 0 _ _ _ hbk, fun e => m9 e.symm, hsz, ownsRow_set (unhide HN2) _ (ownsRow_ne (unhide HN2) hbk (by decide)) _⟩
            case rest =>
            obtain ⟨bb, v2, rfl, rfl, hm, h9, hbb, hnb, hbs, hn2⟩ := hcut
            obtain ⟨vo, vc, hvf⟩ := hn2.form
            subst hvf
            clear c0 z0 c1 z1 c9 z9 d0 d1 d2 d3 d4 d5
            obtain ⟨c0, z0⟩ := one_cell hm.b0
            obtain ⟨c1, z1⟩ := one_cell hm.b1
            obtain ⟨c9, z9⟩ := one_cell h9
            obtain ⟨cb, zb⟩ := one_cell hbb
            have HM2 := hide hm
            have HN2 := hide hn2
            have H92 := hide h9
            clear hm hn2 h9 hbb
            obtain ⟨q, hq⟩ : ∃ q, (rOne cur x).2 = q := ⟨_, rfl⟩
            by_cases hq0 : q = 0
            · subst hq0
              have HRA := hide ((unhide HA2) hq)
              rw [hq]
              have hq1 : ((0 : Int) != 0) = false := rfl
              go_wp2_with fail
              go_roundw
              case rel =>
                refine ⟨j + 1, .slice vo (rOne cur x).1.length vc, (rOne cur x).1, by omega, by go_num, (unhide HM2).set hb3 _ (unhide H92), heap_setCell_same wc b9 0 _ _ _ (unhide H92), ownsRow_set (unhide HN2) _ (ownsRow_ne (unhide HN2) (unhide H92) (by decide)) _, (unhide HOR).1, ?_, unhide HRA⟩
                have := (unhide HOR).2
                omega
              case measure => simp [intOf]; omega
            · have HRA := hide ((unhide HA1) (by rw [hq]; exact hq0))
              rw [hq] at HRA ⊢
              have hq1 : (q != 0) = true := by simpa using hq0
              go_wp2_with fail
              have hfin := (unhide HM2).fin (unhide HM2).nat
              refine bodyPost_ret (v := .tuple #[.agg #[.slice ao l.length cap], .int .i64 q]) ?_ rfl ⟨.slice ao l.length cap, by rw [unhide HRA], by rw [unhide HRA]; exact hfin.1, hfin.2⟩
              simp [results, Tryz.f81, go_sem, c1]
          · have j1 : ¬ ((j : Int) < (L.length : Int)) := by omega
            have hjl : j = L.length := by omega
            subst hjl
            have HRF := hide (show r = (cur, 0) by rw [unhide HRR, hra, List.drop_length]; rfl)
            have HM := hide hm
            have HCV := hide hcv
            clear hra hm hcv h9
            go_wp2_with fail
            have hfin := (unhide HM).fin (unhide HCV)
            refine bodyPost_ret (v := .tuple #[.agg #[.slice co cur.length ccap], .int .i64 0]) ?_ rfl ⟨.slice co cur.length ccap, by rw [unhide HRF], by rw [unhide HRF]; exact hfin.1, hfin.2⟩
            simp [results, Tryz.f81, go_sem, c1]
end Go.Proofs.YtcbindgpbeaebaaGreatDoor

namespace Go.Proofs.YtcbindgpbeaebaaGreatDoor
open Go.RowKit Go.Deep
attribute [local go_sem ↓] Go.wp_at_zero Go.wp_at_succ

theorem deals_nil (w : World) : Calls Tryz.prog 79 #[.slice none 0 0] w fun e w' => e = .returned (.slice none 0 0) ∧ w' = w := by
  have heq : ∀ w : World, (binOp BinOp.eql 35 (.slice none 0 0) (.slice none 0 0)).run Tryz.prog w = .ok (.bool true) w := fun _ => by kernel_rfl
  go_enter Tryz.func79, Tryz.ntmps79
  go_wp2_with fail
  go_ret
  exact ⟨rfl, rfl⟩
theorem asDealt_nil (w : World) (ao : Option Addr) (n c : Nat) : Calls Tryz.prog 80 #[.slice ao n c, .slice none 0 0] w fun e w' => e = .returned (.bool true) ∧ w' = w := by
  have heq : ∀ w : World, (binOp BinOp.eql 35 (.slice none 0 0) (.slice none 0 0)).run Tryz.prog w = .ok (.bool true) w := fun _ => by kernel_rfl
  go_enter Tryz.func80, Tryz.ntmps80
  go_wp2_with fail
  go_ret
  exact ⟨rfl, rfl⟩
/-- What is handed in for a list of deeds. -/
def Dealt (w : World) (C : Nat) (v pv : Value) (L : List Dd) : Prop :=
  (v = .slice none 0 0 ∧ L = [] ∧ pv = .slice none 0 0) ∨
  ∃ a cap g cur, v = .slice (some a) L.length cap ∧ pv = .slice (some ⟨g, 0, none⟩) L.length (L.length + 8) ∧ Dl w g L cur ∧ C ≤ g
theorem Dealt.ds {w : World} {C : Nat} {v pv : Value} {L : List Dd} (h : Dealt w C v pv L) : DsAt w pv L := by
  rcases h with ⟨_, rfl, rfl⟩ | ⟨a, cap, g, cur, _, rfl, hd, _⟩
  · exact ⟨none, 0, rfl, fun h => by simp at h⟩
  · exact ⟨_, _, rfl, fun _ => ⟨g, cur, rfl, hd.own, fun i x hx => hd.is i x hx⟩⟩
theorem Dealt.form {w : World} {C : Nat} {v pv : Value} {L : List Dd} (h : Dealt w C v pv L) : ∃ ao c, pv = .slice ao L.length c := by
  rcases h with ⟨_, rfl, rfl⟩ | ⟨a, cap, g, cur, _, rfl, _⟩
  · exact ⟨none, 0, rfl⟩
  · exact ⟨_, _, rfl⟩
theorem Dealt.kept {w w' : World} {C : Nat} {v pv : Value} {L : List Dd} (h : Dealt w C v pv L) (hk : ∀ (g : Nat) (cur : Array Value), w.heap[g]? = some (.cells cur 79 (0, 0)) → w'.heap[g]? = w.heap[g]?) : Dealt w' C v pv L := by
  rcases h with h | ⟨a, cap, g, cur, e1, e2, hd, hC⟩
  · exact .inl h
  · exact .inr ⟨a, cap, g, cur, e1, e2, ⟨(hk g cur hd.own).trans hd.own, hd.size, hd.is, hd.marks⟩, hC⟩
theorem deals_all (w : World) (v : Value) (L : List Dd) (h : DIn w v L) (hL : L.length ≤ 2000000) :
    Calls Tryz.prog 79 #[v] w fun e w' => ∃ pv, e = .returned pv ∧ Dealt w' w.heap.size v pv L ∧ Below w.heap.size w w' := by
  obtain ⟨ao, cap, rfl, h0, hc⟩ := id h
  cases ao with
  | none =>
    have hL0 : L = [] := by
      cases L with
      | nil => rfl
      | cons x r =>
        obtain ⟨b, o, e, _⟩ := hc 0 x rfl
        cases e
    subst hL0
    have := h0 rfl
    subst this
    refine (deals_nil w).mono ?_
    rintro e w' ⟨he, rfl⟩
    exact ⟨_, he, .inl ⟨rfl, rfl, rfl⟩, Below.refl _ _⟩
  | some a =>
    refine (deals_any w a cap L h hL).mono ?_
    rintro e w' ⟨he, hb, cur, hd⟩
    exact ⟨_, he, .inr ⟨a, cap, w.heap.size, cur, rfl, rfl, hd, Nat.le_refl _⟩, hb⟩
/-- Behind 'asDealt' only the deeds that were handed in have been turned. -/
theorem asDealt_all (w : World) (C : Nat) (v pv : Value) (L : List Dd) (hd : Dealt w C v pv L) (h : DIn w v L) (hL : L.length ≤ 2000000) (hlow : ∀ b o n c, v = .slice (some ⟨b, o, none⟩) n c → 0 < n → b < C) :
    Calls Tryz.prog 80 #[pv, v] w fun e w' => e = .returned (.bool true) ∧ w.heap.size ≤ w'.heap.size ∧ w'.os = w.os ∧ w'.tape = w.tape ∧ w'.output = w.output ∧ (∀ k, k < C → k < w.heap.size → w'.heap[k]? = w.heap[k]?) ∧ ∀ (k : Nat) (cur : Array Value) (t : TypeId), w.heap[k]? = some (.cells cur t (0, 0)) → t ≠ 79 → w'.heap[k]? = w.heap[k]? := by
  rcases hd with ⟨rfl, rfl, rfl⟩ | ⟨a, cap, g, cur, rfl, rfl, hd, hC⟩
  · refine (asDealt_nil w none 0 0).mono ?_
    rintro e w' ⟨he, rfl⟩
    exact ⟨he, Nat.le_refl _, rfl, rfl, rfl, fun _ _ _ => rfl, fun _ _ _ _ _ => rfl⟩
  · refine (asDealt_any w g a cap L cur hd h hL fun b o e h0 => by have := hlow b o _ _ (by rw [e]) h0; omega).mono ?_
    rintro e w' ⟨he, h1, h2, h3, h4, h5⟩
    refine ⟨he, h1, h2, h3, h4, fun k hk hkw => h5 k hkw (by omega), fun k cs t hc ht => h5 k (lt_of_heap hc) fun e => ?_⟩
    subst e
    rw [hd.own] at hc
    simp only [Option.some.injEq, Obj.cells.injEq] at hc
    exact ht hc.2.1.symm

/-- The law's struct and its lists, in memory. -/
structure St (w : World) (B bw bd : Nat) (xv bv ov : Value) (tw br : Bool) (lsv : Value) (l l2 : List Nd) (X : List Value) : Prop where
  own : w.heap[bw]? = some (.cells (bcells bd xv bv ov tw br lsv) 33 (0, 0))
  n1 : NAt w bv l
  n2 : NAt w ov l2
  ls : LsAt w B lsv X
theorem NAt.kept {w w' : World} {v : Value} {l : List Nd} (h : NAt w v l) (hk : ∀ (g : Nat) (cur : Array Value), w.heap[g]? = some (.cells cur 76 (0, 0)) → w'.heap[g]? = w.heap[g]?) : NAt w' v l :=
  ownsRow_kept h fun g hg => by
    obtain ⟨cur, hc⟩ := own_blk h hg
    exact hk g cur hc
theorem St.kept {w w' : World} {B bw bd : Nat} {xv bv ov : Value} {tw br : Bool} {lsv : Value} {l l2 : List Nd} {X : List Value} (h : St w B bw bd xv bv ov tw br lsv l l2 X) (hs : w.heap.size ≤ w'.heap.size) (hk : ∀ (g : Nat) (cur : Array Value) (t : TypeId), w.heap[g]? = some (.cells cur t (0, 0)) → (t = 33 ∨ t = 76 ∨ t = 28) → w'.heap[g]? = w.heap[g]?) : St w' B bw bd xv bv ov tw br lsv l l2 X :=
  ⟨(hk bw _ _ h.own (.inl rfl)).trans h.own, h.n1.kept fun g cur hc => hk g cur _ hc (.inr (.inl rfl)), h.n2.kept fun g cur hc => hk g cur _ hc (.inr (.inl rfl)), h.ls.kept hs fun g cur t hc ht => hk g cur t hc (.inr ht)⟩
theorem St.below {w w' : World} {B bw bd : Nat} {xv bv ov : Value} {tw br : Bool} {lsv : Value} {l l2 : List Nd} {X : List Value} (h : St w B bw bd xv bv ov tw br lsv l l2 X) (hb : Below w.heap.size w w') : St w' B bw bd xv bv ov tw br lsv l l2 X := h.kept hb.size fun g _ _ hc _ => hb.block g (lt_of_heap hc)
/-- A cell of the struct is stored. -/
theorem St.rows {w : World} {B bw bd : Nat} {xv bv ov : Value} {tw br : Bool} {lsv : Value} {l l2 : List Nd} {X : List Value} (h : St w B bw bd xv bv ov tw br lsv l l2 X) {v : Value} {m : List Nd} (hv : NAt w v m) (i : Nat) (u : Value) : NAt (w.setCell ⟨bw, i, none⟩ u) v m := ownsRow_set hv _ (ownsRow_ne hv h.own (by decide)) u
theorem LsAt.setOther {w : World} {B bw : Nat} {cs : Array Value} {lsv : Value} {X : List Value} (h : LsAt w B lsv X) (ho : w.heap[bw]? = some (.cells cs 33 (0, 0))) (i : Nat) (u : Value) : LsAt (w.setCell ⟨bw, i, none⟩ u) B lsv X := h.kept (by simp [World.setCell]) fun g cur t hc ht => Below.heap_setCell _ _ _ _ fun e => by
  have e : g = bw := e
  subst e
  rw [ho] at hc
  simp only [Option.some.injEq, Obj.cells.injEq] at hc
  rcases ht with rfl | rfl
  · exact absurd hc.2.1 (by decide)
  · exact absurd hc.2.1 (by decide)
end Go.Proofs.YtcbindgpbeaebaaGreatDoor

namespace Go.Proofs.YtcbindgpbeaebaaGreatDoor
open Go.RowKit Go.Deep
attribute [local go_sem ↓] Go.wp_at_zero Go.wp_at_succ

theorem DAt.keepT {w w' : World} {bd bs : Nat} {lv : Value} {d : Dk} (h : DAt w bd bs lv d) (hk : ∀ (g : Nat) (cur : Array Value) (t : TypeId), w.heap[g]? = some (.cells cur t (0, 0)) → t ≠ 79 → t ≠ 33 → w'.heap[g]? = w.heap[g]?) : DAt w' bd bs lv d := by
  obtain ⟨cur, hbs, _⟩ := h.sb
  refine h.kept fun q _ e => ?_
  rcases e with rfl | rfl | e
  · exact hk q _ _ h.own (by decide) (by decide)
  · exact hk q _ _ hbs (by decide) (by decide)
  · obtain ⟨c, hc⟩ := own_blk h.late e
    exact hk q c _ hc (by decide) (by decide)
theorem DIn.low {w w' : World} {B : Nat} {v : Value} {L : List Dd} (h : DIn w v L) (hb : Below B w w') (hlow : ∀ b o n c, v = .slice (some ⟨b, o, none⟩) n c → 0 < n → b < B) : DIn w' v L := by
  obtain ⟨ao, cap, rfl, h0, h⟩ := h
  refine ⟨ao, cap, rfl, h0, fun i x hx => ?_⟩
  obtain ⟨b, o, rfl, h2, h3⟩ := h i x hx
  have hb' := hlow b o _ _ rfl (Nat.lt_of_le_of_lt (Nat.zero_le _) (List.getElem?_eq_some_iff.1 hx).1)
  exact ⟨b, o, rfl, Nat.lt_of_lt_of_le h2 hb.size, fun j y hy => (hb.cell (p := ⟨b, o + i * 6 + j, none⟩) hb').trans (h3 j y hy)⟩
/-- What 'does' answers, and what it leaves: by what Do answered (c) and what the document does (r). -/
inductive DoesEnd (B bw bd : Nat) (xv bv ov : Value) (tw br : Bool) (lsv : Value) (l l2 : List Nd) (X : List Value) (L : List Dd) (d d' : Dk) (c : Int) (r : List Nd × Int) (e : Ending) (w' : World) : Prop
  | same (h : (r.2 = 1 ∧ c = 1) ∨ (r.2 ≠ 1 ∧ c = 9 ∧ br = true) ∨ (r.2 ≠ 0 ∧ r.2 ≠ 1 ∧ c = r.2 ∧ c ≠ 9) ∨ (r.2 = 0 ∧ c = 0 ∧ L = [])) (he : e = .returned (.bool true)) (hs : St w' B bw bd xv bv ov tw br lsv l l2 X)
  | stead (h : r.2 ≠ 0 ∧ r.2 ≠ 1 ∧ c = 9 ∧ br = false ∧ d.life = 0) (he : e = .returned (.bool true)) (hs : St w' B bw bd xv bv ov tw true lsv l l2 X)
  | fail (nv : Value) (h : r.2 = 0 ∧ c = 9 ∧ br = false ∧ (d.failed < d'.failed ∨ d'.life = 0)) (he : e = .returned (.bool true)) (hs : St w' B bw bd xv bv nv true true lsv l r.1 X)
  | done (nv : Value) (h : r.2 = 0 ∧ c = 0 ∧ L ≠ [] ∧ d.life ≠ 0 ∧ br = false) (he : e = .returned (.bool true)) (hs : St w' B bw bd xv nv ov tw br lsv r.1 l2 X)
section
variable {w : World} {B bw bd : Nat} {xv bv ov : Value} {tw br : Bool} {lsv : Value} {l l2 : List Nd} {X : List Value}
theorem St.setBr (h : St w B bw bd xv bv ov tw br lsv l l2 X) (b : Bool) : St (w.setCell ⟨bw, 5, none⟩ (.bool b)) B bw bd xv bv ov tw b lsv l l2 X :=
  ⟨heap_setCell_same w bw 5 _ _ _ h.own, h.rows h.n1 _ _, h.rows h.n2 _ _, h.ls.setOther h.own _ _⟩
theorem St.setTw (h : St w B bw bd xv bv ov tw br lsv l l2 X) (b : Bool) : St (w.setCell ⟨bw, 4, none⟩ (.bool b)) B bw bd xv bv ov b br lsv l l2 X :=
  ⟨heap_setCell_same w bw 4 _ _ _ h.own, h.rows h.n1 _ _, h.rows h.n2 _ _, h.ls.setOther h.own _ _⟩
theorem St.setO (h : St w B bw bd xv bv ov tw br lsv l l2 X) {v : Value} {m : List Nd} (hv : NAt w v m) : St (w.setCell ⟨bw, 3, none⟩ v) B bw bd xv bv v tw br lsv l m X :=
  ⟨heap_setCell_same w bw 3 _ _ _ h.own, h.rows h.n1 _ _, h.rows hv _ _, h.ls.setOther h.own _ _⟩
theorem St.setB (h : St w B bw bd xv bv ov tw br lsv l l2 X) {v : Value} {m : List Nd} (hv : NAt w v m) : St (w.setCell ⟨bw, 2, none⟩ v) B bw bd xv v ov tw br lsv m l2 X :=
  ⟨heap_setCell_same w bw 2 _ _ _ h.own, h.rows hv _ _, h.rows h.n2 _ _, h.ls.setOther h.own _ _⟩
theorem St.keepsT (h : St w B bw bd xv bv ov tw br lsv l l2 X) (i : Nat) (u : Value) : ∀ (g : Nat) (cur : Array Value) (t : TypeId), w.heap[g]? = some (.cells cur t (0, 0)) → t ≠ 79 → t ≠ 33 → (w.setCell ⟨bw, i, none⟩ u).heap[g]? = w.heap[g]? := fun g cur t hc _ ht => Below.heap_setCell _ _ _ _ fun e => by
  have e : g = bw := e
  subst e
  rw [h.own] at hc
  simp only [Option.some.injEq, Obj.cells.injEq] at hc
  exact ht hc.2.1.symm
end
/-- Stores into the struct ahead of a block that is made. -/
theorem keepsA {w w' : World} {o : Obj} (hs : w'.heap.size = w.heap.size) (hk : ∀ (g : Nat) (cur : Array Value) (t : TypeId), w.heap[g]? = some (.cells cur t (0, 0)) → t ≠ 79 → t ≠ 33 → w'.heap[g]? = w.heap[g]?) : ∀ (g : Nat) (cur : Array Value) (t : TypeId), w.heap[g]? = some (.cells cur t (0, 0)) → t ≠ 79 → t ≠ 33 → (w'.alloc o).heap[g]? = w.heap[g]? := fun g cur t hc h1 h2 =>
  (Below.heap_alloc _ _ _ (by rw [hs]; exact lt_of_heap hc)).trans (hk g cur t hc h1 h2)
/-- How Do, and the document, may end together. -/
def Ends (br : Bool) (L : List Dd) (d d' : Dk) (c : Int) (r : List Nd × Int) : Prop :=
  (r.2 = 1 ∧ c = 1) ∨ (r.2 ≠ 1 ∧ c = 9 ∧ br = true) ∨ (r.2 ≠ 0 ∧ r.2 ≠ 1 ∧ c = r.2 ∧ c ≠ 9) ∨ (r.2 = 0 ∧ c = 0 ∧ L = []) ∨ (r.2 ≠ 0 ∧ r.2 ≠ 1 ∧ c = 9 ∧ br = false ∧ d.life = 0) ∨ (r.2 = 0 ∧ c = 9 ∧ br = false ∧ (d.failed < d'.failed ∨ d'.life = 0)) ∨ (r.2 = 0 ∧ c = 0 ∧ L ≠ [] ∧ d.life ≠ 0 ∧ br = false)

set_option maxRecDepth 100000 in
set_option maxHeartbeats 6400000 in
theorem does_walk (w : World) (B bw bd bs bb : Nat) (bv ov lv : Value) (tw br : Bool) (lsv : Value) (l l2 : List Nd) (X : List Value) (v : Value) (L : List Dd) (d : Dk) (Z : Int → Value → Dk → World → Prop)
    (hs : St w B bw bd (.pointer (some ⟨bb, 0, none⟩)) bv ov tw br lsv l l2 X) (hB : B ≤ w.heap.size) (hbw : B ≤ bw) (hD : DAt w bd bs lv d) (hv : DIn w v L) (hL : L.length ≤ 2000000) (hpz : ∀ x ∈ L, x.node.path.size ≤ 4611686018427387903) (hl : l.length ≤ 60) (ho : OrdN l) (hlow : ∀ b o n c, v = .slice (some ⟨b, o, none⟩) n c → 0 < n → b < B)
    (hdo : ∀ W pv, Below w.heap.size w W → DsAt W pv L → Calls Tryz.prog 33 #[.pointer (some ⟨bb, 0, none⟩), pv] W fun e w' => ∃ c lv' d', e = .returned (.int .i64 c) ∧ Ends br L d d' c (rDo l L) ∧ DAt w' bd bs lv' d' ∧ Z c lv' d' w' ∧ Below B W w' ∧ ∀ (g : Nat) (cur : Array Value) (t : TypeId), W.heap[g]? = some (.cells cur t (0, 0)) → (t = 33 ∨ t = 76 ∨ t = 28 ∨ t = 79) → w'.heap[g]? = W.heap[g]?)
    (hZ : ∀ c lv' d' (W W' : World), Z c lv' d' W → W.heap.size ≤ W'.heap.size → (∀ (g : Nat) (cur : Array Value) (t : TypeId), W.heap[g]? = some (.cells cur t (0, 0)) → t ≠ 79 → t ≠ 33 → W'.heap[g]? = W.heap[g]?) → Z c lv' d' W') :
    Calls Tryz.prog 37 #[.pointer (some ⟨bw, 0, none⟩), v] w fun e w' => ∃ c lv' d', DoesEnd B bw bd (.pointer (some ⟨bb, 0, none⟩)) bv ov tw br lsv l l2 X L d d' c (rDo l L) e w' ∧ DAt w' bd bs lv' d' ∧ Z c lv' d' w' ∧ Below B w w' := by
  obtain ⟨r, hr⟩ : ∃ r, r = rDo l L := ⟨_, rfl⟩
  rw [← hr]
  simp only [← hr] at hdo
  have HRR := hide hr
  clear hr
  obtain ⟨⟨x0, x1, x2, x3, x4, x5, x6⟩, xz⟩ := bcell hs.own
  obtain ⟨bo, bc, hbf⟩ := hs.n1.form
  subst hbf
  obtain ⟨ao, acap, hvf, _, _⟩ := id hv
  subst hvf
  have HS := hide hs
  have HV := hide hv
  have HDO := hide hdo
  have HZ := hide hZ
  have HO := hide ho
  have HPZ := hide hpz
  have HLOW := hide hlow
  clear hs hv hdo hZ ho hpz hlow
  go_enter Tryz.func37, Tryz.ntmps37
  go_wp2_with fail
  refine (dead_any w bd bs lv d hD).mono ?_
  rintro e w1 ⟨rfl, hw1⟩
  have hw1 := hw1.symm
  subst hw1
  go_wp2_with fail
  refine (failed_any w bd bs lv d hD).mono ?_
  rintro e w1 ⟨rfl, hw1⟩
  have hw1 := hw1.symm
  subst hw1
  go_wp2_with fail
  refine (deals_all w _ L (unhide HV) hL).mono ?_
  rintro e w1 ⟨pv, rfl, hde, hb1⟩
  obtain ⟨po, pc, hpf⟩ := hde.form
  subst hpf
  have hs1 := (unhide HS).below hb1
  obtain ⟨⟨y0, y1, y2, y3, y4, y5, y6⟩, yz⟩ := bcell hs1.own
  have HDE := hide hde
  have HS1 := hide hs1
  have HB1 := hide hb1
  have hb1s := hb1.size
  clear hde hs1 hb1 x0 x1 x2 x3 x4 x5 x6 xz
  go_wp2_with fail
  refine ((unhide HDO) w1 _ (unhide HB1) (unhide HDE).ds).mono ?_
  rintro e w2 ⟨c, lv', d', rfl, hen, hd2, hz2, hb2, hk2⟩
  have hs2 := (unhide HS1).kept hb2.size fun g cur t hc ht => hk2 g cur t hc (ht.elim .inl fun h => h.elim (fun h => .inr (.inl h)) fun h => .inr (.inr (.inl h)))
  have hde2 := (unhide HDE).kept fun g cur hc => hk2 g cur _ hc (.inr (.inr (.inr rfl)))
  have hsz2 := hb2.size
  have hv2 : DIn w2 (.slice ao L.length acap) L := ((unhide HV).below (unhide HB1)).low hb2 (unhide HLOW)
  have HV2 := hide hv2
  have HEN := hide hen
  have HD2 := hide hd2
  have HZ2 := hide hz2
  have HB2 := hide hb2
  have HS2 := hide hs2
  have HDE2 := hide hde2
  clear hen hd2 hz2 hb2 hk2 hs2 hde2 hv2 y0 y1 y2 y3 y4 y5 y6 yz
  go_wp2_with fail
  refine (asDealt_all w2 w.heap.size _ _ L (unhide HDE2) (unhide HV2) hL (fun b o n c e h0 => Nat.lt_of_lt_of_le ((unhide HLOW) b o n c e h0) hB)).mono ?_
  rintro e w3 ⟨rfl, hsz3, ho3, ht3, hp3, hlo3, hk3⟩
  have hs3 := (unhide HS2).kept hsz3 fun g cur t hc ht => hk3 g cur t hc (by rcases ht with rfl | rfl | rfl <;> decide)
  have hd3 := (unhide HD2).keepT fun g cur t hc h1 _ => hk3 g cur t hc h1
  have hz3 := (unhide HZ) c lv' d' w2 w3 (unhide HZ2) hsz3 fun g cur t hc h1 _ => hk3 g cur t hc h1
  have hb3 : Below B w2 w3 := ⟨ho3, ht3, hp3, hsz3, fun k hk => hlo3 k (by omega) (by omega)⟩
  have hv3 := (unhide HV2).low hb3 (unhide HLOW)
  have hbB3 : Below B w w3 := (((unhide HB1).mono hB).trans (unhide HB2)).trans hb3
  obtain ⟨⟨y0, y1, y2, y3, y4, y5, y6⟩, yz⟩ := bcell hs3.own
  have HS3 := hide hs3
  have HD3 := hide hd3
  have HZ3 := hide hz3
  have HB3 := hide hbB3
  have HV3 := hide hv3
  have hB3 : B ≤ w3.heap.size := by omega
  clear hs3 hd3 hz3 hb3 hbB3 hv3 ho3 ht3 hp3 hlo3 hk3 HS2 HD2 HZ2 HB2 HV2 HDE2 HDE HS1
  go_wp2_with fail
  refine (failed_any w3 bd bs lv' d' (unhide HD3)).mono ?_
  rintro e w4 ⟨rfl, hw4⟩
  have hw4 := hw4.symm
  subst hw4
  go_wp2_with fail
  refine (dead_any w3 bd bs lv' d' (unhide HD3)).mono ?_
  rintro e w4 ⟨rfl, hw4⟩
  have hw4 := hw4.symm
  subst hw4
  go_wp2_with fail
  refine (bDo_any w3 (.slice bo l.length bc) l (.slice ao L.length acap) L (unhide HS3).n1 hl (unhide HO) (unhide HV3) hL (unhide HPZ)).mono ?_
  rintro e w4 ⟨nv, rfl, hn4, hb4⟩
  obtain ⟨no, nc, hnf⟩ := hn4.form
  subst hnf
  rw [← unhide HRR] at hn4 ⊢
  obtain ⟨r1, q⟩ := r
  dsimp only at hn4 ⊢
  have hs4 := (unhide HS3).below hb4
  have hs5 := hs4.below (below_new w4 (.cells #[.slice no r1.length nc] 30))
  have hn5 := hn4.alloc (.cells #[.slice no r1.length nc] 30)
  have hd5 := ((unhide HD3).below hb4).below (below_new w4 (.cells #[.slice no r1.length nc] 30))
  have hz5 := (unhide HZ) c lv' d' w3 (w4.alloc (.cells #[.slice no r1.length nc] 30)) (unhide HZ3) (Nat.le_trans hb4.size (below_new w4 _).size) fun g cur t hc _ _ => (Below.heap_alloc _ _ _ (Nat.lt_of_lt_of_le (lt_of_heap hc) hb4.size)).trans (hb4.block g (lt_of_heap hc))
  have hbB5 := ((unhide HB3).trans (hb4.mono hB3)).alloc (Nat.le_trans hB3 hb4.size) (.cells #[.slice no r1.length nc] 30)
  have hn9 : (w4.alloc (.cells #[.slice no r1.length nc] 30)).heap[w4.heap.size]? = some (.cells #[.slice no r1.length nc] 30 (0, 0)) := heap_alloc_new w4 _
  have lbw : bw < w4.heap.size := lt_of_heap hs4.own
  have nbw : ¬ bw = w4.heap.size := by omega
  have nbw' : ¬ w4.heap.size = bw := by omega
  clear y0 y1 y2 y3 y4 y5 y6 yz
  obtain ⟨⟨y0, y1, y2, y3, y4, y5, y6⟩, yz⟩ := bcell hs4.own
  obtain ⟨⟨t0, t1, t2, t3, t4, t5, t6⟩, tz⟩ := bcell hs5.own
  have tz2 := tz 2
  have tz3 := tz 3
  have tz4 := tz 4
  have tz5 := tz 5
  obtain ⟨a9, _⟩ := one_cell hn9
  have yz2 := yz 2
  have yz3 := yz 3
  have yz4 := yz 4
  have yz5 := yz 5
  have hd4 := (unhide HD3).below hb4
  have hz4 := (unhide HZ) c lv' d' w3 w4 (unhide HZ3) hb4.size fun g cur t hc _ _ => hb4.block g (lt_of_heap hc)
  have hbB4 := (unhide HB3).trans (hb4.mono hB3)
  have hB4 : B ≤ w4.heap.size := Nat.le_trans hB3 hb4.size
  have HS4 := hide hs4
  have HN4 := hide hn4
  have HD4 := hide hd4
  have HZ4 := hide hz4
  have HB4 := hide hbB4
  have HS5 := hide hs5
  have HN5 := hide hn5
  have HD5 := hide hd5
  have HZ5 := hide hz5
  have HB5 := hide hbB5
  have hen := unhide HEN
  dsimp only [Ends] at hen
  clear hs4 hs5 hn4 hn5 hd4 hz4 hbB4 hd5 hz5 hbB5 hb4 hn9 yz tz HEN HS3 HD3 HZ3 HB3 HV3 HRR
  rcases hen with ⟨rfl, rfl⟩ | ⟨h1, rfl, rfl⟩ | ⟨h0, h1, rfl, h9⟩ | ⟨rfl, rfl, rfl⟩ | ⟨h0, h1, rfl, rfl, hli⟩ | ⟨rfl, rfl, rfl, hfa⟩ | ⟨rfl, rfl, hne, hli, rfl⟩
  · go_wp2_with fail
    go_ret
    exact ⟨1, lv', d', .same (.inl ⟨rfl, rfl⟩) rfl (unhide HS5), unhide HD5, unhide HZ5, unhide HB5⟩
  · have q1 : (q == 1) = false := by simpa using h1
    go_wp2_with fail
    go_ret
    exact ⟨9, lv', d', .same (.inr (.inl ⟨h1, rfl, rfl⟩)) rfl (unhide HS5), unhide HD5, unhide HZ5, unhide HB5⟩
  · have q1 : (c == 1) = false := by simpa using h1
    have q9 : (c == 9) = false := by simpa using h9
    have q0 : (c != 0) = true := by simpa using h0
    go_wp2_with fail
    go_ret
    exact ⟨c, lv', d', .same (.inr (.inr (.inl ⟨h0, h1, rfl, h9⟩))) (by simp) (unhide HS5), unhide HD5, unhide HZ5, unhide HB5⟩
  · go_wp2_with fail
    go_ret
    exact ⟨0, lv', d', .same (.inr (.inr (.inr ⟨rfl, rfl, rfl⟩))) rfl (unhide HS5), unhide HD5, unhide HZ5, unhide HB5⟩
  · have q1 : (q == 1) = false := by simpa using h1
    have q0 : (q != 0) = true := by simpa using h0
    have ql : (d.life == 0) = true := by simpa using hli
    go_wp2_with fail
    go_ret
    have hk := (unhide HS4).keepsT 5 (.bool true)
    exact ⟨9, lv', d', .stead ⟨h0, h1, rfl, rfl, hli⟩ (by simp [hli]) (((unhide HS4).setBr true).below (below_new _ _)), ((unhide HD4).keepT hk).below (below_new _ _), (unhide HZ) _ _ _ _ _ (unhide HZ4) (by simp [World.setCell]) (keepsA (by simp [World.setCell]) hk), ((unhide HB4).setCell (p := ⟨bw, 5, none⟩) hbw _).alloc (by simpa [World.setCell] using hB4) _⟩
  · have s1 := (unhide HS4).setBr true
    have s2 := s1.setTw true
    have s3 := s2.setO (s1.rows ((unhide HS4).rows (unhide HN4) 5 (.bool true)) 4 (.bool true))
    have kt : ∀ (g : Nat) (cur : Array Value) (t : TypeId), w4.heap[g]? = some (.cells cur t (0, 0)) → t ≠ 79 → t ≠ 33 → (((w4.setCell ⟨bw, 5, none⟩ (.bool true)).setCell ⟨bw, 4, none⟩ (.bool true)).setCell ⟨bw, 3, none⟩ (.slice no r1.length nc)).heap[g]? = w4.heap[g]? := fun g cur t hc h1 h2 => by
      have k1 := (unhide HS4).keepsT 5 (.bool true) g cur t hc h1 h2
      have k2 := s1.keepsT 4 (.bool true) g cur t (k1.trans hc) h1 h2
      have k3 := s2.keepsT 3 (.slice no r1.length nc) g cur t (k2.trans (k1.trans hc)) h1 h2
      exact k3.trans (k2.trans k1)
    have HS6 := hide s3
    have HKT := hide kt
    clear s1 s2 s3 kt
    by_cases hff : d.failed < d'.failed
    · go_wp2_with fail
      go_ret
      exact ⟨9, lv', d', .fail _ ⟨rfl, rfl, rfl, hfa⟩ (by simp) ((unhide HS6).below (below_new _ _)), ((unhide HD4).keepT (unhide HKT)).below (below_new _ _), (unhide HZ) _ _ _ _ _ (unhide HZ4) (by simp [World.setCell]) (keepsA (by simp [World.setCell]) (unhide HKT)), ((((unhide HB4).setCell (p := ⟨bw, 5, none⟩) hbw _).setCell (p := ⟨bw, 4, none⟩) hbw _).setCell (p := ⟨bw, 3, none⟩) hbw _).alloc (by simpa [World.setCell] using hB4) _⟩
    · have hl0 : d'.life = 0 := hfa.resolve_left hff
      have ql : (d'.life == 0) = true := by simpa using hl0
      go_wp2_with fail
      go_ret
      exact ⟨9, lv', d', .fail _ ⟨rfl, rfl, rfl, hfa⟩ (by simp) ((unhide HS6).below (below_new _ _)), ((unhide HD4).keepT (unhide HKT)).below (below_new _ _), (unhide HZ) _ _ _ _ _ (unhide HZ4) (by simp [World.setCell]) (keepsA (by simp [World.setCell]) (unhide HKT)), ((((unhide HB4).setCell (p := ⟨bw, 5, none⟩) hbw _).setCell (p := ⟨bw, 4, none⟩) hbw _).setCell (p := ⟨bw, 3, none⟩) hbw _).alloc (by simpa [World.setCell] using hB4) _⟩
  · have hLn : ((L.length : Int) == 0) = false := by
      have : L.length ≠ 0 := fun e => hne (List.eq_nil_of_length_eq_zero e)
      simpa using this
    have ql : (d.life == 0) = false := by simpa using hli
    go_wp2_with fail
    go_ret
    have hk := (unhide HS4).keepsT 2 (.slice no r1.length nc)
    exact ⟨0, lv', d', .done _ ⟨rfl, rfl, hne, hli, rfl⟩ (by simp) (((unhide HS4).setB (unhide HN4)).below (below_new _ _)), ((unhide HD4).keepT hk).below (below_new _ _), (unhide HZ) _ _ _ _ _ (unhide HZ4) (by simp [World.setCell]) (keepsA (by simp [World.setCell]) hk), ((unhide HB4).setCell (p := ⟨bw, 2, none⟩) hbw _).alloc (by simpa [World.setCell] using hB4) _⟩
end Go.Proofs.YtcbindgpbeaebaaGreatDoor

namespace Go.Proofs.YtcbindgpbeaebaaGreatDoor
open Go.RowKit Go.Deep

theorem rDo_arg {L : List Dd} (h : okDeeds L = false) (l : List Nd) : rDo l L = (l, 1) := by unfold rDo; rw [if_neg (by rw [h]; simp)]
theorem rDo_not1 {L : List Dd} (h : okDeeds L = true) (l : List Nd) : (rDo l L).2 ≠ 1 := by
  unfold rDo
  rw [if_pos h]
  have := rAll_err l L l
  omega
/-- A base that is well: by what a Do leaves. -/
theorem ends_sum {M : List Pl} {L : List Dd} {d d' : Dk} {c : Int} {br' : Bool} (h : DoSum M L d c br' d') (hli : d.life ≠ 0) : Ends false L d d' c (rDo (nodesOf M) L) := by
  cases h with
  | err h0 h9 _ _ hr =>
    rw [hr]
    by_cases h1 : c = 1
    · exact .inl ⟨h1, h1⟩
    · exact .inr (.inr (.inl ⟨h0, h1, rfl, h9⟩))
  | ok M1 h0 _ hr _ _ _ _ _ _ =>
    rw [hr]
    by_cases hL : L = []
    · exact .inr (.inr (.inr (.inl ⟨rfl, h0, hL⟩)))
    · exact .inr (.inr (.inr (.inr (.inr (.inr ⟨rfl, h0, hL, hli, rfl⟩)))))
  | bad M1 ps h9 _ hr _ _ _ _ _ _ _ _ hf1 _ _ =>
    rw [hr]
    exact .inr (.inr (.inr (.inr (.inr (.inl ⟨rfl, h9, rfl, .inl hf1⟩)))))
/-- A base whose disk is dead. -/
theorem ends_dead {l : List Nd} {L : List Dd} {d : Dk} (h : okDeeds L = true) (hli : d.life = 0) : Ends false L d d 9 (rDo l L) := by
  have h1 := rDo_not1 h l
  by_cases h0 : (rDo l L).2 = 0
  · exact .inr (.inr (.inr (.inr (.inr (.inl ⟨h0, rfl, rfl, .inr hli⟩)))))
  · exact .inr (.inr (.inr (.inr (.inl ⟨h0, h1, rfl, rfl, hli⟩))))
/-- A base that is broken. -/
theorem ends_broken {l : List Nd} {L : List Dd} {d : Dk} (h : okDeeds L = true) : Ends true L d d 9 (rDo l L) := .inr (.inl ⟨rDo_not1 h l, rfl, rfl⟩)
theorem ends_arg {l : List Nd} {L : List Dd} {d : Dk} {br : Bool} (h : okDeeds L = false) : Ends br L d d 1 (rDo l L) := .inl ⟨by rw [rDo_arg h], rfl⟩
end Go.Proofs.YtcbindgpbeaebaaGreatDoor
