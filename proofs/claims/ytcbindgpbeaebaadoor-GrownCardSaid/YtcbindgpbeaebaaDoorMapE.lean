import Derived.Test.YtcbindgpbeaebaaDoorMapD
namespace Go.Proofs.YtcbindgpbeaebaaDoor
open Go.RowKit Go.Deep

theorem zero_cells : (Builtin.zeroCells zEn.cells 1).toList = [.string ⟨#[]⟩, .int .i64 0, .string ⟨#[]⟩, .int .i64 0, .int .i64 0, .int .i64 0, .string ⟨#[]⟩] := by kernel_rfl
theorem zero_entry : ∀ w, (zeroValue 124).run Tryd.prog w = .ok zEn w := Tryd.zeroValue124

set_option maxRecDepth 100000 in
set_option maxHeartbeats 3200000 in
theorem sdelete_any (w : World) (B : Nat) (g cap : Nat) (M : List Pl) (i : Nat) (h : w.ownsRow B 124 7 (.slice (some ⟨g, 0, none⟩) M.length cap) M.length (rowM M)) (hi : i < M.length) (hm : M.length ≤ 1000) :
    Calls Tryd.prog 119 #[.slice (some ⟨g, 0, none⟩) M.length cap, .int .i64 (i : Int), .int .i64 ((i : Int) + 1)] w (InsPost w B (some g) (M.take i ++ M.drop (i + 1))) := by
  obtain ⟨cur, hg, hcm, hcs, hct, hbg, hnc⟩ : ∃ cur : Array Value, w.heap[g]? = some (.cells cur 124 (0, 0)) ∧ cap ≤ maxLen ∧ cur.size = cap * 7 ∧ cur.toList.take (M.length * 7) = rowM M ∧ B ≤ g ∧ M.length ≤ cap := by
    rcases h.2 with ⟨h1, _⟩ | ⟨g', cp, cur, h1, h2, h3, h4, h5, h6, h7⟩
    · cases h1
    · simp only [Value.slice.injEq, Option.some.injEq, Addr.mk.injEq, and_true, true_and] at h1
      obtain ⟨rfl, rfl⟩ := h1
      exact ⟨cur, h3, h5, h6, h7, h2, h4⟩
  have hc63 : cap ≤ 9223372036854775807 := by unfold maxLen at hcm; omega
  obtain ⟨m, hmm⟩ : ∃ m, m = M.length - (i + 1) := ⟨_, rfl⟩
  have hdl : (rowM (M.drop (i + 1))).length = m * 7 := by rw [rowM_len, List.length_drop, hmm]
  have hsplit : rowM M = rowM (M.take (i + 1)) ++ rowM (M.drop (i + 1)) := by rw [← rowM_app, List.take_append_drop]
  have htl1 : (rowM (M.take (i + 1))).length = (i + 1) * 7 := by rw [rowM_len, List.length_take, Nat.min_eq_left (by omega)]
  have hcl : cur.toList.length = cap * 7 := by rw [Array.length_toList, hcs]
  have hgA : w.drew.heap[g]? = some (.cells cur.toList.toArray 124 (0, 0)) := hg
  have hap : ∀ ty sp c, (0 < m → sp = some ⟨g, (i + 1) * 7, none⟩) → (Builtin.append_ #[125, 125] ty #[.slice (some ⟨g, 0, none⟩) i cap, .slice sp m c]).run Tryd.prog w.drew = .ok (.slice (some ⟨g, 0, none⟩) (i + m) cap) (w.drew.setRow g (splice cur.toList (i * 7) (rowM (M.drop (i + 1)))).toArray) := fun ty sp c hsp => by
    have := run_append_k (P := Tryd.prog) w.drew 125 ty 124 7 g i cap m c sp cur 124 (rowM (M.drop (i + 1))) Tryd.underlying125 size_entry hg hdl (by omega)
      (fun h0 => ⟨_, hsp h0, fun j v hj => cells_at hgA ((i + 1) * 7) j v (by
        have hjl : j < m * 7 := by rw [← hdl]; exact (List.getElem?_eq_some_iff.1 hj).1
        have e : (rowM M)[(i + 1) * 7 + j]? = some v := by
          rw [hsplit, List.getElem?_append_right (by omega), htl1, Nat.add_sub_cancel_left]
          exact hj
        rw [← hct, List.getElem?_take_of_lt (by omega)] at e
        rw [List.getElem?_drop]
        exact e)⟩) (by rw [hdl, hcs]; omega) (rowM_one _)
    rw [this]
    simp [splice]
  have him : i + m + 1 = M.length := by omega
  obtain ⟨W1, hW1⟩ : ∃ W1, W1 = w.drew.setRow g (splice cur.toList (i * 7) (rowM (M.drop (i + 1)))).toArray := ⟨_, rfl⟩
  rw [← hW1] at hap
  have hsl1 : (splice cur.toList (i * 7) (rowM (M.drop (i + 1)))).length = cap * 7 := by rw [length_splice _ _ _ (by rw [hdl, hcl]; omega), hcl]
  have hg1 : W1.heap[g]? = some (.cells (splice cur.toList (i * 7) (rowM (M.drop (i + 1)))).toArray 124 (0, 0)) := by rw [hW1]; exact setRow_heap w.drew g _ _ _ _ hg
  have hzl : (Builtin.zeroCells zEn.cells 1).toList.length = 7 := by rw [zero_cells]; rfl
  have hcl1 : ∀ ty c, (Builtin.clear_ #[125] ty #[.slice (some ⟨g, (i + m) * 7, none⟩) 1 c]).run Tryd.prog W1 = .ok (.tuple #[]) (W1.setRow g (splice (splice cur.toList (i * 7) (rowM (M.drop (i + 1)))) ((i + m) * 7) (Builtin.zeroCells zEn.cells 1).toList).toArray) := fun ty c => by
    have := run_clear_k (P := Tryd.prog) W1 125 ty 124 g ((i + m) * 7) 1 c zEn _ 124 Tryd.underlying125 zero_entry (by omega) hg1 (by rw [List.size_toArray, hsl1, hzl]; omega) (by rw [zero_cells]; simp [Value.oneCell'])
    rw [this]
    simp [splice]
  have hw1 : IntKind.i64.wrap ((i : Int) + 1) = (i : Int) + 1 := by rw [IntKind.wrap_i64]; omega
  have hb0 : ¬ ((i : Int) = (i : Int) + 1) := by omega
  have hb1 : (0 : Int) ≤ (i : Int) + 1 := by omega
  have htn : ((i : Int) + 1).toNat = i + 1 := by omega
  have hb3 : (i : Int) + 1 ≤ (M.length : Int) := by omega
  have hb4 : ¬ (cap = i) := by omega
  have hb5 : (i : Int) ≤ (i : Int) + 1 := by omega
  have HG1 := hide hg1
  have HW1 := hide hW1
  have HCT := hide hct
  have hmi : M.length - (i + 1) = m := hmm.symm
  clear hg h hgA hg1 hW1 hct hmm
  have hlN : (M.take i ++ M.drop (i + 1)).length = i + m := by simp; omega
  have htl : (rowM (M.take i)).length = i * 7 := by rw [rowM_len, List.length_take, Nat.min_eq_left (by omega)]
  have fin : InsPost w B (some g) (M.take i ++ M.drop (i + 1)) (.returned (.slice (some ⟨g, 0, none⟩) (i + m) cap)) (W1.setRow g (splice (splice cur.toList (i * 7) (rowM (M.drop (i + 1)))) ((i + m) * 7) (Builtin.zeroCells zEn.cells 1).toList).toArray) := by
    refine ⟨_, rfl, ⟨by rw [rowM_len], .inr ⟨g, cap, _, by rw [hlN], hbg, setRow_heap W1 g _ _ _ _ (unhide HG1), by omega, hcm, ?_, ?_⟩⟩, ?_, fun g' hg' => .inl (by simpa [Value.ownBlock] using hg')⟩
    · rw [List.size_toArray, length_splice _ _ _ (by rw [hsl1, hzl]; omega), hsl1]
    · rw [hlN, rowM_app]
      show List.take _ (splice (splice cur.toList (i * 7) (rowM (M.drop (i + 1)))) ((i + m) * 7) (Builtin.zeroCells zEn.cells 1).toList) = _
      have hA : cur.toList.take (i * 7) = rowM (M.take i) := by
        have h1 : (cur.toList.take (M.length * 7)).take (i * 7) = cur.toList.take (i * 7) := by rw [List.take_take, Nat.min_eq_left (by omega)]
        rw [← h1, unhide HCT, show rowM M = rowM (M.take i) ++ rowM (M.drop i) by rw [← rowM_app, List.take_append_drop], List.take_append_of_le_length (by omega), List.take_of_length_le (by omega)]
      have e1 : (splice cur.toList (i * 7) (rowM (M.drop (i + 1)))).take ((i + m) * 7) = rowM (M.take i) ++ rowM (M.drop (i + 1)) := by
        rw [splice, hA, ← List.append_assoc, List.take_append_of_le_length (by rw [List.length_append, htl, hdl]; omega), List.take_of_length_le (by rw [List.length_append, htl, hdl]; omega)]
      rw [splice, e1, List.take_append_of_le_length (by rw [List.length_append, htl, hdl]; omega), List.take_of_length_le (by rw [List.length_append, htl, hdl]; omega)]
    · have := grown_setRow w.drew g (splice cur.toList (i * 7) (rowM (M.drop (i + 1)))).toArray
      rw [← unhide HW1] at this
      have h2 := this.trans (grown_setRow W1 g (splice (splice cur.toList (i * 7) (rowM (M.drop (i + 1)))) ((i + m) * 7) (Builtin.zeroCells zEn.cells 1).toList).toArray)
      exact ⟨h2.os, h2.tape, h2.output, h2.size, h2.block⟩
  obtain ⟨Z, hZ⟩ : ∃ Z, Z = (Builtin.zeroCells zEn.cells 1).toList := ⟨_, rfl⟩
  rw [← hZ] at fin hcl1 hzl
  clear hZ
  have HF := hide fin
  clear fin
  have hc0 : ¬ (cap = i + m) := by omega
  have hic : i ≤ cap := by omega
  have hs1 : M.length - (i + m) = 1 := by omega
  have hs2 : (i : Int) + (m : Int) ≤ (M.length : Int) := by omega
  by_cases hc1 : cap = i + 1
  · subst hc1
    have hm0 : m = 0 := by omega
    have hap1 : ∀ ty c, (Builtin.append_ #[125, 125] ty #[.slice (some ⟨g, 0, none⟩) i (i + 1), .slice (some ⟨g, 0, none⟩) m c]).run Tryd.prog w.drew = .ok (.slice (some ⟨g, 0, none⟩) (i + m) (i + 1)) W1 := fun ty c => hap ty _ c (fun h => by omega)
    have HM0 := hide hm0
    clear hm0 hap
    go_enter Tryd.func119, Tryd.ntmps119
    go_wp2_with fail
    go_region_law (refine stp_append rfl _ _ 125 125 rfl (.slice (some ⟨g, 0, none⟩) i (i + 1)) (.slice (some ⟨g, 0, none⟩) m 0) (by simp [Act.eval, Act.put]) (by simp [Act.eval, Act.put]) (hap1 _ _) ?_)
    go_wp2_with (at_builtin; refine wpList_clear _ rfl _ 125 rfl _ rfl (hcl1 _ _) ?_)
    go_ret
    have hf := unhide HF
    exact hf
  · have hap2 : ∀ ty c, (Builtin.append_ #[125, 125] ty #[.slice (some ⟨g, 0, none⟩) i cap, .slice (some ⟨g, (i + 1) * 7, none⟩) m c]).run Tryd.prog w.drew = .ok (.slice (some ⟨g, 0, none⟩) (i + m) cap) W1 := fun ty c => hap ty _ c (fun _ => rfl)
    clear hap
    go_enter Tryd.func119, Tryd.ntmps119
    go_wp2_with fail
    go_region_law (refine stp_append rfl _ _ 125 125 rfl (.slice (some ⟨g, 0, none⟩) i cap) (.slice (some ⟨g, (i + 1) * 7, none⟩) m (cap - (i + 1))) (by simp [Act.eval, Act.put]) (by simp [Act.eval, Act.put]) (hap2 _ _) ?_)
    go_wp2_with (at_builtin; refine wpList_clear _ rfl _ 125 rfl _ rfl (hcl1 _ _) ?_)
    go_ret
    have hf := unhide HF
    exact hf

/-- A map, without what is at a path. -/
def delM (M : List Pl) (q : ByteArray) : List Pl := M.filter fun p => !(cmpB p.node.path q == 0)
theorem delM_pos {M : List Pl} {q : ByteArray} {i : Nat} (hord : Ord M) (hi : IsPos M q i) : delM M q = if thereAt M q i then M.take i ++ M.drop (i + 1) else M := by
  have hg := getM_pos hord hi
  cases ht : thereAt M q i
  · rw [ht] at hg
    have hn : getM M q = none := by simpa using hg
    unfold getM at hn
    rw [List.find?_eq_none] at hn
    unfold delM
    simp only [Bool.false_eq_true, if_false]
    rw [List.filter_eq_self]
    intro p hp
    have := hn p hp
    simpa using this
  · have hil : i < M.length := by
      unfold thereAt at ht
      cases hq : M[i]? with
      | none => rw [hq] at ht; cases ht
      | some p => exact (List.getElem?_eq_some_iff.1 hq).1
    have hp : cmpB M[i].node.path q = 0 := by
      unfold thereAt at ht
      rw [List.getElem?_eq_getElem hil] at ht
      simpa using ht
    have e0 : M[i].node.path = q := cmpB_zero hp
    have hsp : M = M.take i ++ (M[i] :: M.drop (i + 1)) := by
      have := List.take_append_drop i M
      rw [List.drop_eq_getElem_cons hil] at this
      exact this.symm
    simp only [if_true]
    unfold delM
    conv => lhs; rw [hsp]
    rw [List.filter_append, List.filter_cons]
    have h0 : (!(cmpB M[i].node.path q == 0)) = false := by simp [hp]
    rw [h0]
    simp only [Bool.false_eq_true, if_false]
    congr 1
    · rw [List.filter_eq_self]
      intro p hpm
      obtain ⟨k, hk⟩ := List.getElem?_of_mem hpm
      rw [List.getElem?_take] at hk
      split at hk
      · next h => have := hi.lo k p h hk; simp; omega
      · cases hk
    · rw [List.filter_eq_self]
      intro p hpm
      obtain ⟨k, hk⟩ := List.getElem?_of_mem hpm
      rw [List.getElem?_drop] at hk
      have h1 := hord.at (List.getElem?_eq_getElem hil) hk (by omega)
      rw [e0] at h1
      have := cmpB_swap q p.node.path
      simp; omega

set_option maxRecDepth 100000 in
set_option maxHeartbeats 3200000 in
theorem mdelete_any (w : World) (B bm : Nat) (ev : Value) (M : List Pl) (q : ByteArray) (h : MAt w B bm ev M) (hord : Ord M) (hm : M.length ≤ 999) :
    Calls Tryd.prog 100 #[.pointer (some ⟨bm, 0, none⟩), .string q] w (MPost w B bm ev (delM M q)) := by
  go_enter Tryd.func100, Tryd.ntmps100
  go_wp2_with fail
  refine (mfind_any w B bm ev M q h hord (by omega)).mono ?_
  rintro e w1 ⟨i, rfl, hi, hb⟩
  have hI := delM_pos hord hi
  have hM := h.below hb
  cases ht : thereAt M q i
  · rw [ht] at hI
    have HI := hide (show delM M q = M from hI)
    clear hI
    go_wp2_with fail
    go_returns
    refine ⟨ev, rfl, ?_, hb.os, hb.tape, hb.output, hb.size, fun k hk _ _ _ => hb.block k hk, fun _ h => .inl h⟩
    rw [unhide HI]
    exact hM
  · rw [ht] at hI
    have HI := hide (show delM M q = M.take i ++ M.drop (i + 1) from hI)
    clear hI
    have hil : i < M.length := by
      unfold thereAt at ht
      cases hq : M[i]? with
      | none => rw [hq] at ht; cases ht
      | some p => exact (List.getElem?_eq_some_iff.1 hq).1
    have mc : w1.cell? ⟨bm, 0, none⟩ = some ev := hM.cell
    obtain ⟨g, cap, rfl, _, hgl⟩ := hM.row.form (by omega)
    have hd := sdelete_any w1 B g cap M i hM.row hil (by omega)
    have HD := hide hd
    have HM := hide hM
    clear hd hM
    go_wp2_with fail
    refine (unhide HD).mono ?_
    rintro e w2 ⟨v2, rfl, ho2, hg2, hf2⟩
    have hbm := h.lt
    have hne : bm ≠ g := fun e => (unhide HM).ne (by simp [Value.ownBlock, e])
    have b2 : w2.heap[bm]? = w1.heap[bm]? := hg2.block bm (unhide HM).lt (by simpa using hne)
    have s0 := (World.cell?_of_block (a := ⟨bm, 0, none⟩) b2).trans mc
    have s1 := (World.frozen?_of_block (a := ⟨bm, 0, none⟩) b2).trans ((unhide HM).fz 0)
    have ht := mat_turn hb h (Below.refl _ w1) ho2 (by simpa [Value.ownBlock] using hg2) (by simpa [Value.ownBlock] using hf2)
    obtain ⟨ao2, cap2, hv2⟩ := row_form ho2
    subst hv2
    have HT := hide ht
    clear ht ho2 hg2 hf2 b2
    go_wp2_with fail
    go_returns
    have ht := unhide HT
    have hl2 : (M.take i ++ M.drop (i + 1)).length = min i M.length + (M.length - (i + 1)) := by simp
    rw [hl2, ← unhide HI] at ht
    exact ⟨_, rfl, ht⟩
end Go.Proofs.YtcbindgpbeaebaaDoor
