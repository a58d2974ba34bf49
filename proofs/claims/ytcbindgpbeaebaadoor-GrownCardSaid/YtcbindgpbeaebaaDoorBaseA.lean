import Derived.Test.YtcbindgpbeaebaaDoorWorkD
namespace Go.Proofs.YtcbindgpbeaebaaDoor
open Go.RowKit Go.Deep
attribute [local go_sem ↓] Go.wp_at_zero Go.wp_at_succ

/-- Deeds that are handed in. -/
def DsAt (w : World) (v : Value) (L : List Dd) : Prop :=
  ∃ ao cap, v = .slice ao L.length cap ∧ (0 < L.length → ∃ b cur, ao = some ⟨b, 0, none⟩ ∧ w.heap[b]? = some (.cells cur 47 (0, 0)) ∧ ∀ i x, L[i]? = some x → ∀ j y, (ddC x)[j]? = some y → cur[i * 6 + j]? = some y)
theorem DsAt.kept {w w' : World} {v : Value} {L : List Dd} (h : DsAt w v L) (hk : ∀ (b : Nat) (cur : Array Value), w.heap[b]? = some (.cells cur 47 (0, 0)) → w'.heap[b]? = w.heap[b]?) : DsAt w' v L := by
  obtain ⟨ao, cap, hv, h⟩ := h
  refine ⟨ao, cap, hv, fun h0 => ?_⟩
  obtain ⟨b, cur, h1, h2, h3⟩ := h h0
  exact ⟨b, cur, h1, (hk b cur h2).trans h2, h3⟩
theorem DsAt.below {w w' : World} {v : Value} {L : List Dd} (h : DsAt w v L) (hb : Below w.heap.size w w') : DsAt w' v L := h.kept fun b _ hc => hb.block b (lt_of_heap hc)
theorem DsAt.at {w : World} {ao : Option Addr} {cap : Nat} {L : List Dd} (h : DsAt w (.slice ao L.length cap) L) (i : Nat) (x : Dd) (hi : L[i]? = some x) :
    ∃ b, ao = some ⟨b, 0, none⟩ ∧ w.cell? ⟨b, i * 6, none⟩ = some (.bool x.take) ∧ w.cell? ⟨b, i * 6 + 1, none⟩ = some (.string x.node.path) ∧ w.cell? ⟨b, i * 6 + 2, none⟩ = some (.int .i64 x.node.kind) ∧ w.cell? ⟨b, i * 6 + 3, none⟩ = some (.int .i64 x.node.mode) ∧ w.cell? ⟨b, i * 6 + 4, none⟩ = some (.int .i64 x.node.tag) ∧ w.cell? ⟨b, i * 6 + 5, none⟩ = some (.string x.node.data) := by
  obtain ⟨ao', cap', hv, h⟩ := h
  have hl := (List.getElem?_eq_some_iff.1 hi).1
  obtain ⟨b, cur, h1, h2, h3⟩ := h (by omega)
  simp only [Value.slice.injEq, true_and] at hv
  obtain ⟨rfl, rfl⟩ := hv
  have hj : ∀ j y, (ddC x)[j]? = some y → w.cell? ⟨b, i * 6 + j, none⟩ = some y := fun j y hy => by
    rw [cell_of_row w b _ _ _ _ h2]; exact h3 i x hi j y hy
  exact ⟨b, h1, hj 0 _ rfl, hj 1 _ rfl, hj 2 _ rfl, hj 3 _ rfl, hj 4 _ rfl, hj 5 _ rfl⟩
theorem DsAt.form {w : World} {v : Value} {L : List Dd} (h : DsAt w v L) : ∃ ao cap, v = .slice ao L.length cap := by
  obtain ⟨ao, cap, hv, _⟩ := h
  exact ⟨ao, cap, hv⟩

/-- May Do be asked for this? -/
def okDeed (x : Dd) : Bool := okPath x.node.path && (x.take || okNode x.node)
def okDeeds (L : List Dd) : Bool := decide (L.length ≤ 12) && L.all okDeed

set_option maxRecDepth 100000 in
set_option maxHeartbeats 3200000 in
theorem areDeeds_any (w : World) (v : Value) (L : List Dd) (h : DsAt w v L) (hz : ∀ x ∈ L, x.node.path.size ≤ 4611686018427387904) (hL : L.length ≤ 4611686018427387904) :
    Calls Tryd.prog 32 #[v] w fun e w' => e = .returned (.bool (okDeeds L)) ∧ Below w.heap.size w w' := by
  obtain ⟨ao, cap, rfl⟩ := h.form
  by_cases h12 : 12 < L.length
  · have HO := hide (show okDeeds L = false by unfold okDeeds; rw [decide_eq_false (by omega)]; rfl)
    have h12' : (12 : Int) < (L.length : Int) := by omega
    go_enter Tryd.func32, Tryd.ntmps32
    go_wp2_with fail
    go_ret
    exact ⟨by rw [unhide HO]; rfl, Below.refl _ _⟩
  · have HO := hide (show okDeeds L = L.all okDeed by unfold okDeeds; rw [decide_eq_true (by omega)]; rfl)
    have h12' : ¬ ((12 : Int) < (L.length : Int)) := by omega
    go_enter Tryd.func32, Tryd.ntmps32
    go_wp2_with fail
    go_loopw [10] (fun i wr => ∃ k : Nat, k ≤ L.length ∧ i = .int .i64 k ∧ (L.take k).all okDeed = true ∧ Below w.heap.size w wr) (fun i _ => L.length - (intOf i).toNat)
    case atStart => exact ⟨0, Nat.zero_le _, rfl, by simp, Below.refl _ _⟩
    case round =>
      obtain ⟨k, hk, rfl, hall, hb⟩ := hrel
      by_cases hlt : k < L.length
      · obtain ⟨x, hx⟩ : ∃ x, L[k]? = some x := ⟨_, List.getElem?_eq_getElem hlt⟩
        obtain ⟨b, rfl, d0, d1, d2, d3, d4, d5⟩ := (h.below hb).at k x hx
        have hxz := hz x (List.mem_of_getElem? hx)
        have i0 : (0 : Int) ≤ (k : Int) := Int.natCast_nonneg _
        have i1 : (k : Int) < (L.length : Int) := by omega
        obtain ⟨tk, n⟩ := x
        dsimp only at d0 d1 d2 d3 d4 d5 hxz
        obtain ⟨W, hW⟩ : ∃ W, W = wr.alloc (.cells #[.bool tk, .string n.path, .int .i64 n.kind, .int .i64 n.mode, .int .i64 n.tag, .string n.data] 47) := ⟨_, rfl⟩
        have hBW : Below wr.heap.size wr W := by rw [hW]; exact (Below.refl _ wr).alloc (Nat.le_refl _) _
        have bW : W.heap[wr.heap.size]? = some (.cells #[.bool tk, .string n.path, .int .i64 n.kind, .int .i64 n.mode, .int .i64 n.tag, .string n.data] 47 (0, 0)) := by rw [hW]; exact heap_alloc_new wr _
        have hv := Valid_any W n.path hxz
        have HV := hide hv
        have HX := hide hx
        have HALL := hide hall
        have HB := hide hb
        clear hv hx hall hb
        have hend : (okDeed ⟨tk, n⟩ = false) → L.all okDeed = false := fun h => by
          rw [List.all_eq_false]
          exact ⟨_, List.mem_of_getElem? (unhide HX), by rw [h]; decide⟩
        have hnext : (okDeed ⟨tk, n⟩ = true) → (L.take (k + 1)).all okDeed = true := fun h => by
          rw [List.take_add_one, unhide HX, List.all_append, unhide HALL]
          simp [h]
        have HEND := hide hend
        have HNEXT := hide hnext
        clear hend hnext
        cases hok : okPath n.path
        · have HOK := hide hok
          have hod : okDeed ⟨tk, n⟩ = false := by simp [okDeed, hok]
          have HOD := hide hod
          clear hok hod
          go_wp2_with fail
          rw [← hW]
          refine (unhide HV).mono ?_
          rintro e w1 ⟨rfl, o, hw1⟩
          rw [unhide HOK]
          go_wp2_with fail
          go_ret
          refine ⟨by rw [unhide HO, (unhide HEND) (unhide HOD)]; rfl, ?_⟩
          rw [← hW]
          have := (unhide HB).trans (hBW.mono (unhide HB).size)
          exact this.alloc this.size _
        · have HOK := hide hok
          have hod : okDeed ⟨tk, n⟩ = (tk || okNode n) := by simp [okDeed, hok]
          have HOD := hide hod
          clear hok hod
          have hB1 := (unhide HB).trans (hBW.mono (unhide HB).size)
          have bA : ∀ o, (W.alloc o).heap[wr.heap.size]? = some (.cells #[.bool tk, .string n.path, .int .i64 n.kind, .int .i64 n.mode, .int .i64 n.tag, .string n.data] 47 (0, 0)) := fun o => (Below.heap_alloc W o _ (lt_of_heap bW)).trans bW
          cases tk
          · have hI := fun w => isNode_any w n hxz
            unfold ndV at hI
            have HI := hide hI
            clear hI
            cases hok : okNode n
            · have HON := hide hok
              have HF := hide (show okDeed ⟨false, n⟩ = false by rw [unhide HOD, hok]; rfl)
              clear hok
              go_wp2_with fail
              rw [← hW]
              refine (unhide HV).mono ?_
              rintro e w1 ⟨rfl, o, hw1⟩
              rw [unhide HOK]
              have c0 : w1.cell? ⟨wr.heap.size, 0, none⟩ = some (.bool false) := by rw [hw1, cell_of_row _ _ _ _ _ _ (bA o)]; rfl
              have c1 : w1.cell? ⟨wr.heap.size, 1, none⟩ = some (.string n.path) := by rw [hw1, cell_of_row _ _ _ _ _ _ (bA o)]; rfl
              have c2 : w1.cell? ⟨wr.heap.size, 2, none⟩ = some (.int .i64 n.kind) := by rw [hw1, cell_of_row _ _ _ _ _ _ (bA o)]; rfl
              have c3 : w1.cell? ⟨wr.heap.size, 3, none⟩ = some (.int .i64 n.mode) := by rw [hw1, cell_of_row _ _ _ _ _ _ (bA o)]; rfl
              have c4 : w1.cell? ⟨wr.heap.size, 4, none⟩ = some (.int .i64 n.tag) := by rw [hw1, cell_of_row _ _ _ _ _ _ (bA o)]; rfl
              have c5 : w1.cell? ⟨wr.heap.size, 5, none⟩ = some (.string n.data) := by rw [hw1, cell_of_row _ _ _ _ _ _ (bA o)]; rfl
              have hB2 : Below w.heap.size w w1 := by rw [hw1]; exact hB1.alloc hB1.size _
              clear hw1
              go_wp2_with fail
              refine ((unhide HI) w1).mono ?_
              rintro e w2 ⟨rfl, hb2⟩
              rw [unhide HON]
              go_wp2_with fail
              go_ret
              exact ⟨by rw [unhide HO, (unhide HEND) (unhide HF)]; rfl, hB2.trans (hb2.mono hB2.size)⟩
            · have HON := hide hok
              have HF := hide (show okDeed ⟨false, n⟩ = true by rw [unhide HOD, hok]; rfl)
              clear hok
              go_wp2_with fail
              rw [← hW]
              refine (unhide HV).mono ?_
              rintro e w1 ⟨rfl, o, hw1⟩
              rw [unhide HOK]
              have c0 : w1.cell? ⟨wr.heap.size, 0, none⟩ = some (.bool false) := by rw [hw1, cell_of_row _ _ _ _ _ _ (bA o)]; rfl
              have c1 : w1.cell? ⟨wr.heap.size, 1, none⟩ = some (.string n.path) := by rw [hw1, cell_of_row _ _ _ _ _ _ (bA o)]; rfl
              have c2 : w1.cell? ⟨wr.heap.size, 2, none⟩ = some (.int .i64 n.kind) := by rw [hw1, cell_of_row _ _ _ _ _ _ (bA o)]; rfl
              have c3 : w1.cell? ⟨wr.heap.size, 3, none⟩ = some (.int .i64 n.mode) := by rw [hw1, cell_of_row _ _ _ _ _ _ (bA o)]; rfl
              have c4 : w1.cell? ⟨wr.heap.size, 4, none⟩ = some (.int .i64 n.tag) := by rw [hw1, cell_of_row _ _ _ _ _ _ (bA o)]; rfl
              have c5 : w1.cell? ⟨wr.heap.size, 5, none⟩ = some (.string n.data) := by rw [hw1, cell_of_row _ _ _ _ _ _ (bA o)]; rfl
              have hB2 : Below w.heap.size w w1 := by rw [hw1]; exact hB1.alloc hB1.size _
              clear hw1
              go_wp2_with fail
              refine ((unhide HI) w1).mono ?_
              rintro e w2 ⟨rfl, hb2⟩
              rw [unhide HON]
              go_wp2_with fail
              go_roundw
              case rel => exact ⟨k + 1, by omega, by go_num, (unhide HNEXT) (unhide HF), hB2.trans (hb2.mono hB2.size)⟩
              case measure => simp [intOf]; omega
          · have HF := hide (show okDeed ⟨true, n⟩ = true by rw [unhide HOD]; rfl)
            go_wp2_with fail
            rw [← hW]
            refine (unhide HV).mono ?_
            rintro e w1 ⟨rfl, o, hw1⟩
            rw [unhide HOK]
            have c0 : w1.cell? ⟨wr.heap.size, 0, none⟩ = some (.bool true) := by rw [hw1, cell_of_row _ _ _ _ _ _ (bA o)]; rfl
            have hB2 : Below w.heap.size w w1 := by rw [hw1]; exact hB1.alloc hB1.size _
            clear hw1
            go_wp2_with fail
            go_roundw
            case rel => exact ⟨k + 1, by omega, by go_num, (unhide HNEXT) (unhide HF), hB2⟩
            case measure => simp [intOf]; omega
      · have HE := hide (show L.all okDeed = true by rw [List.take_of_length_le (by omega)] at hall; exact hall)
        go_wp2_with fail
        go_ret
        exact ⟨by rw [unhide HO, unhide HE]; rfl, hb⟩
end Go.Proofs.YtcbindgpbeaebaaDoor
