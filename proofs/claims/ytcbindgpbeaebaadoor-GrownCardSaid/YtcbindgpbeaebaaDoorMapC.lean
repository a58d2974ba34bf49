import Derived.Test.YtcbindgpbeaebaaDoorRowK
namespace Go.Proofs.YtcbindgpbeaebaaDoor
open Go.RowKit Go.Deep

def zEn : Value := .agg #[.string ⟨#[]⟩, .int .i64 0, .string ⟨#[]⟩, .int .i64 0, .int .i64 0, .int .i64 0, .string ⟨#[]⟩]
theorem info_entry : (Tryd.prog.info? 124).map (fun i => (i.zero, i.size, i.bytes)) = some (some zEn, 7, 80) := by kernel_rfl
theorem size_entry : (Tryd.prog.info? 124).map (·.size) = some 7 := by kernel_rfl
theorem enC_one (p : Pl) : ∀ v ∈ enC p, v.oneCell' = true := by simp [enC, Value.oneCell']
theorem rowM_one (M : List Pl) : ∀ v ∈ rowM M, v.oneCell' = true := by
  intro v hv
  simp only [rowM, List.mem_flatMap] at hv
  obtain ⟨p, _, hp⟩ := hv
  exact enC_one p v hp
/-- What an insertion of an entry leaves. -/
def InsPost (w : World) (B : Nat) (ob : Option Nat) (N : List Pl) (e : Ending) (w' : World) : Prop :=
  ∃ v', e = .returned v' ∧ w'.ownsRow B 124 7 v' N.length (rowM N) ∧ w.grownBy w' ob ∧ ∀ g, v'.ownBlock = some g → ob = some g ∨ w.heap.size ≤ g

theorem cells_at {w : World} {b : Nat} {L : List Value} {t : TypeId} (h : w.heap[b]? = some (.cells L.toArray t (0, 0))) (o : Nat) : ∀ j v, (L.drop o)[j]? = some v → w.cell? ((⟨b, o, none⟩ : Addr).add j) = some v := by
  intro j v hj
  have hadd : (⟨b, o, none⟩ : Addr).add j = ⟨b, o + j, none⟩ := by unfold Addr.add; split <;> simp_all
  rw [hadd, cell_of_row w b (o + j) _ _ _ h]
  rw [List.getElem?_drop] at hj
  simpa using hj

theorem shift_splice {α : Type} (cur A D X : List α) (a k : Nat) (ha : A.length = a) (hX : X.length = k) (h : cur.take (a + D.length) = A ++ D) (hl : a + k + D.length ≤ cur.length) :
    (splice (splice cur (a + k) D) a X).take (a + k + D.length) = A ++ (X ++ D) := by
  have hA : cur.take a = A := by
    have h1 : (cur.take (a + D.length)).take a = cur.take a := by rw [List.take_take, Nat.min_eq_left (by omega)]
    rw [← h1, h, List.take_append_of_le_length (by omega), List.take_of_length_le (by omega)]
  have hT : (cur.take (a + k)).length = a + k := by rw [List.length_take]; omega
  have e1 : (splice cur (a + k) D).take a = A := by
    unfold splice
    rw [List.take_append_of_le_length (by omega), List.take_take, Nat.min_eq_left (by omega), hA]
  have e2 : (splice cur (a + k) D).drop (a + k) = D ++ cur.drop (a + k + D.length) := by
    unfold splice
    rw [List.drop_append, hT, Nat.sub_self, List.drop_of_length_le (by omega)]
    rfl
  rw [splice, e1, hX, e2, ← List.append_assoc X, ← List.append_assoc A, List.take_append_of_le_length (by simp; omega), List.take_of_length_le (by simp; omega)]
theorem grow_splice {α : Type} (R A D X : List α) (a k : Nat) (ha : A.length = a) (hX : X.length = k) (h : R.take a = A) :
    (splice (splice R a X) (a + k) D).take (a + k + D.length) = A ++ (X ++ D) := by
  have e1 : splice R a X = (A ++ X) ++ R.drop (a + k) := by
    rw [splice, h, hX, List.append_assoc]
  have e2 : (splice R a X).take (a + k) = A ++ X := by
    rw [e1, List.take_append_of_le_length (by simp; omega), List.take_of_length_le (by simp; omega)]
  have e3 : splice (splice R a X) (a + k) D = (A ++ (X ++ D)) ++ (splice R a X).drop (a + k + D.length) := by
    rw [splice, e2]
    simp
  rw [e3, List.take_append_of_le_length (by simp; omega), List.take_of_length_le (by simp; omega)]

set_option maxRecDepth 100000 in
set_option maxHeartbeats 3200000 in
theorem insert_end (w : World) (B : Nat) (v : Value) (M : List Pl) (x : Pl) (bx : Nat) (h : w.ownsRow B 124 7 v M.length (rowM M)) (hB : B ≤ w.heap.size) (hx : w.heap[bx]? = some (.cells (enC x).toArray 124 (0, 0))) (hm : M.length ≤ 1000) :
    Calls Tryd.prog 109 #[v, .int .i64 (M.length : Int), .slice (some ⟨bx, 0, none⟩) 1 1] w (InsPost w B v.ownBlock (M ++ [x])) := by
  obtain ⟨i0, hi0, hz0, hz1, hz2⟩ := info_parts info_entry
  obtain ⟨ob, hob⟩ : ∃ ob, ob = v.ownBlock := ⟨_, rfl⟩
  rw [← hob]
  have HOB := hide hob
  clear hob
  obtain ⟨ao, cap, rfl⟩ := row_form h
  have hcap : M.length ≤ cap := by
    rcases h.2 with ⟨h1, h2⟩ | ⟨g, cp, cur, h1, h2, h3, h4, h5, h6, h7⟩
    · omega
    · simp only [Value.slice.injEq] at h1
      omega
  have hsl : ∀ a, ao = some a → a = ⟨a.block, 0, none⟩ := fun a e => by
    subst e
    rcases h.2 with ⟨h1, h2⟩ | ⟨g, cp, cur, h1, _⟩
    · simp at h1
    · simp only [Value.slice.injEq, Option.some.injEq] at h1
      rw [h1.1]
  go_enter Tryd.func109, Tryd.ntmps109
  go_wp2_with (at_builtin; refine wpList_append_lies _ (by rfl) _ _ _ (by rfl) B 124 i0 _ 7 80 Tryd.underlying125 hi0 hz0 hz1 hz2 rfl (by omega) _ M.length (rowM M) (by rfl) h ⟨bx, 0, none⟩ 1 1 (enC x) (by rfl) (by rfl) (by simpa using cells_at hx 0) (enC_one x) (by omega) (by simp [maxLen]; omega) (by omega) hB _ rfl ?_; intro gg cp w1 hown1 hgrow hat hlt)
  all_goals
    go_ret
    refine ⟨_, rfl, ?_, by rw [unhide HOB]; exact hgrow, ?_⟩
    · rw [rowM_app, List.length_append]
      simpa [rowM] using hown1
    · intro g hg
      have e : gg = g := by simpa [Value.ownBlock] using hg
      subst e
      rcases hat with e | e
      · exact .inl ((unhide HOB).trans e)
      · exact .inr (by omega)

set_option maxRecDepth 100000 in
set_option maxHeartbeats 3200000 in
theorem insert_room (w : World) (B : Nat) (g cap : Nat) (M : List Pl) (i : Nat) (x : Pl) (bx : Nat) (h : w.ownsRow B 124 7 (.slice (some ⟨g, 0, none⟩) M.length cap) M.length (rowM M)) (hx : w.heap[bx]? = some (.cells (enC x).toArray 124 (0, 0))) (hne : bx ≠ g) (hi : i < M.length) (hm : M.length ≤ 1000) (hr : M.length + 1 ≤ cap) :
    Calls Tryd.prog 109 #[.slice (some ⟨g, 0, none⟩) M.length cap, .int .i64 (i : Int), .slice (some ⟨bx, 0, none⟩) 1 1] w (InsPost w B (some g) (M.take i ++ x :: M.drop i)) := by
  obtain ⟨cur, hg, hcm, hcs, hct, hbg⟩ : ∃ cur : Array Value, w.heap[g]? = some (.cells cur 124 (0, 0)) ∧ cap ≤ maxLen ∧ cur.size = cap * 7 ∧ cur.toList.take (M.length * 7) = rowM M ∧ B ≤ g := by
    rcases h.2 with ⟨h1, _⟩ | ⟨g', cp, cur, h1, h2, h3, h4, h5, h6, h7⟩
    · cases h1
    · simp only [Value.slice.injEq, Option.some.injEq, Addr.mk.injEq, and_true, true_and] at h1
      obtain ⟨rfl, rfl⟩ := h1
      exact ⟨cur, h3, h5, h6, h7, h2⟩
  have hc63 : cap ≤ 9223372036854775807 := by unfold maxLen at hcm; omega
  have hw1 : IntKind.i64.wrap ((i : Int) + 1) = (i : Int) + 1 := by rw [IntKind.wrap_i64]; omega
  have hb1 : (0 : Int) ≤ (i : Int) + 1 := by omega
  have htn : ((i : Int) + 1).toNat = i + 1 := by omega
  have hb2 : ¬ (cap = i + 1) := by omega
  have hb3 : (i : Int) ≤ (M.length : Int) + 1 := by omega
  have hb4 : ¬ (cap = i) := by omega
  have hov : ∀ lb cb, (callFunc 127 #[.slice (some ⟨bx, 0, none⟩) 1 1, .slice (some ⟨g, (i + 1) * 7, none⟩) lb cb]).run Tryd.prog w = .ok (.value (.bool false)) w := fun lb cb => by
    rw [run_callFunc_extern Tryd.func127 (by kernel_rfl) (by kernel_rfl) (by kernel_rfl) (e := Extern.SlicesOverlaps.overlaps #[125, 125] #[4]) (by kernel_rfl),
      Lib.run_overlaps_apart w 125 4 124 Tryd.underlying125 7 Tryd.sizeOf124 ⟨bx, 0, none⟩ ⟨g, (i + 1) * 7, none⟩ 1 1 lb cb hne 124 124 7 (cap * 7) (by simp [World.shape?, hx, enC]) (by simp [World.shape?, hg, hcs]) (by omega) (frozen_of_row _ _ _ _ _ hx) (frozen_of_row _ _ _ _ _ hx)]
    rfl
  have hdl : (rowM (M.drop i)).length = (M.length - i) * 7 := by rw [rowM_len, List.length_drop]
  have hsplit : rowM M = rowM (M.take i) ++ rowM (M.drop i) := by rw [← rowM_app, List.take_append_drop]
  have htl : (rowM (M.take i)).length = i * 7 := by rw [rowM_len, List.length_take, Nat.min_eq_left (by omega)]
  have hin : i ≤ M.length := by omega
  have hmin : Nat.min (M.length + 1 - i) (M.length - i) = M.length - i := by simp only [Nat.min_def]; split <;> omega
  have hg' : w.drew.heap[g]? = some (.cells cur.toList.toArray 124 (0, 0)) := hg
  have hcp1 : ∀ ty dc sc, (Builtin.copy_ #[125, 125] ty #[.slice (some ⟨g, (i + 1) * 7, none⟩) (M.length - i) dc, .slice (some ⟨g, i * 7, none⟩) (M.length + 1 - i) sc]).run Tryd.prog w.drew = .ok (goInt ((M.length - i : Nat) : Int)) (w.drew.setRow g (splice cur.toList ((i + 1) * 7) (rowM (M.drop i))).toArray) := fun ty dc sc => by
    have := run_copy_k (P := Tryd.prog) w.drew 125 125 ty 124 7 g ((i + 1) * 7) (M.length - i) dc ⟨g, i * 7, none⟩ (M.length + 1 - i) sc cur 124 (rowM (M.drop i)) Tryd.underlying125 size_entry hg (by rw [hdl, hmin])
      (fun j v hj => cells_at hg' (i * 7) j v (by
        have hjl : j < (M.length - i) * 7 := by rw [← hdl]; exact (List.getElem?_eq_some_iff.1 hj).1
        have e : (rowM M)[i * 7 + j]? = some v := by
          rw [hsplit, List.getElem?_append_right (by omega), htl, Nat.add_sub_cancel_left]
          exact hj
        rw [← hct, List.getElem?_take_of_lt (by omega)] at e
        rw [List.getElem?_drop]
        exact e)) (by rw [hdl, hcs]; omega) (rowM_one _)
    rw [this, hmin]
    simp [splice]
  obtain ⟨W1, hW1⟩ : ∃ W1, W1 = w.drew.setRow g (splice cur.toList ((i + 1) * 7) (rowM (M.drop i))).toArray := ⟨_, rfl⟩
  rw [← hW1] at hcp1
  have hg1 : W1.heap[g]? = some (.cells (splice cur.toList ((i + 1) * 7) (rowM (M.drop i))).toArray 124 (0, 0)) := by rw [hW1]; exact setRow_heap w.drew g _ _ _ _ hg
  have hx1 : W1.heap[bx]? = some (.cells (enC x).toArray 124 (0, 0)) := by rw [hW1, setRow_other _ _ _ _ hne]; exact hx
  have hsl1 : (splice cur.toList ((i + 1) * 7) (rowM (M.drop i))).length = cap * 7 := by
    have hcl : cur.toList.length = cap * 7 := by rw [Array.length_toList, hcs]
    rw [length_splice _ _ _ (by rw [hdl, hcl]; omega), hcl]
  have hmin2 : Nat.min 1 (M.length + 1 - i) = 1 := by simp only [Nat.min_def]; split <;> omega
  have hcp2 : ∀ ty dc, (Builtin.copy_ #[125, 125] ty #[.slice (some ⟨g, i * 7, none⟩) (M.length + 1 - i) dc, .slice (some ⟨bx, 0, none⟩) 1 1]).run Tryd.prog W1 = .ok (goInt 1) (W1.setRow g (splice (splice cur.toList ((i + 1) * 7) (rowM (M.drop i))) (i * 7) (enC x)).toArray) := fun ty dc => by
    have := run_copy_k (P := Tryd.prog) W1 125 125 ty 124 7 g (i * 7) (M.length + 1 - i) dc ⟨bx, 0, none⟩ 1 1 _ 124 (enC x) Tryd.underlying125 size_entry hg1 (by rw [hmin2]; rfl)
      (by simpa using cells_at hx1 0) (by rw [List.size_toArray, hsl1]; simp [enC]; omega) (enC_one _)
    rw [this, hmin2]
    simp [splice]
  have HG := hide hg
  have HX := hide hx
  have HG1 := hide hg1
  have HW1 := hide hW1
  clear hg hx h hg' hg1 hx1 hW1
  go_enter Tryd.func109, Tryd.ntmps109
  go_wp2_with (simp only [hov])
  go_region_law (refine stp_copy rfl _ _ 125 125 rfl _ _ (by simp [Act.eval, Act.put]) (by simp [Act.eval, Act.put]) (hcp1 _ _ _) ?_)
  go_wp2_with (at_builtin; refine wpList_copy _ rfl _ _ 125 125 rfl _ _ rfl rfl (hcp2 _ _) ?_)
  go_ret
  have hlN : (M.take i ++ x :: M.drop i).length = M.length + 1 := by simp; omega
  refine ⟨_, rfl, ⟨by rw [rowM_len], .inr ⟨g, cap, (splice (splice cur.toList ((i + 1) * 7) (rowM (M.drop i))) (i * 7) (enC x)).toArray, by rw [hlN]; rfl, hbg, ?_, by omega, hcm, ?_, ?_⟩⟩, ?_, fun g' hg' => .inl (by simpa [Value.ownBlock] using hg')⟩
  · exact setRow_heap W1 g _ _ _ _ (unhide HG1)
  · rw [List.size_toArray, length_splice _ _ _ (by rw [hsl1]; simp [enC]; omega), hsl1]
  · have hX : (enC x).length = 7 := rfl
    have hcl : cur.toList.length = cap * 7 := by rw [Array.length_toList, hcs]
    have := shift_splice cur.toList (rowM (M.take i)) (rowM (M.drop i)) (enC x) (i * 7) 7 htl hX (by rw [hdl, ← hsplit, ← hct]; congr 1; omega) (by rw [hdl, hcl]; omega)
    rw [hlN, rowM_app]
    show List.take _ (splice (splice cur.toList ((i + 1) * 7) (rowM (M.drop i))) (i * 7) (enC x)) = rowM (M.take i) ++ (enC x ++ rowM (M.drop i))
    rw [← this, hdl]
    have e : (i + 1) * 7 = i * 7 + 7 := by omega
    rw [e]
    congr 1
    omega
  · have := (grown_setRow w.drew g (splice cur.toList ((i + 1) * 7) (rowM (M.drop i))).toArray)
    rw [← unhide HW1] at this
    have h2 := this.trans (grown_setRow W1 g (splice (splice cur.toList ((i + 1) * 7) (rowM (M.drop i))) (i * 7) (enC x)).toArray)
    exact ⟨h2.os, h2.tape, h2.output, h2.size, h2.block⟩

set_option maxRecDepth 100000 in
set_option maxHeartbeats 3200000 in
theorem insert_grow (w : World) (B : Nat) (g cap : Nat) (M : List Pl) (i : Nat) (x : Pl) (bx : Nat) (h : w.ownsRow B 124 7 (.slice (some ⟨g, 0, none⟩) M.length cap) M.length (rowM M)) (hB : B ≤ w.heap.size) (hx : w.heap[bx]? = some (.cells (enC x).toArray 124 (0, 0))) (hi : i < M.length) (hm : M.length ≤ 1000) (hr : cap < M.length + 1) :
    Calls Tryd.prog 109 #[.slice (some ⟨g, 0, none⟩) M.length cap, .int .i64 (i : Int), .slice (some ⟨bx, 0, none⟩) 1 1] w (InsPost w B (some g) (M.take i ++ x :: M.drop i)) := by
  obtain ⟨i0, hi0, hz0, hzs, hzb⟩ := info_parts info_entry
  obtain ⟨cur, hg, hcm, hcs, hct, hcl⟩ : ∃ cur : Array Value, w.heap[g]? = some (.cells cur 124 (0, 0)) ∧ cap ≤ maxLen ∧ cur.size = cap * 7 ∧ cur.toList.take (M.length * 7) = rowM M ∧ M.length ≤ cap := by
    rcases h.2 with ⟨h1, _⟩ | ⟨g', cp, cur, h1, h2, h3, h4, h5, h6, h7⟩
    · cases h1
    · simp only [Value.slice.injEq, Option.some.injEq, Addr.mk.injEq, and_true, true_and] at h1
      obtain ⟨rfl, rfl⟩ := h1
      exact ⟨cur, h3, h5, h6, h7, h4⟩
  have hgl : g < w.heap.size := lt_of_heap hg
  have hxl : bx < w.heap.size := lt_of_heap hx
  have hdl : (rowM (M.drop i)).length = (M.length - i) * 7 := by rw [rowM_len, List.length_drop]
  have hsplit : rowM M = rowM (M.take i) ++ rowM (M.drop i) := by rw [← rowM_app, List.take_append_drop]
  have htl : (rowM (M.take i)).length = i * 7 := by rw [rowM_len, List.length_take, Nat.min_eq_left (by omega)]
  have hgA : w.drew.heap[g]? = some (.cells cur.toList.toArray 124 (0, 0)) := hg
  have hat : ∀ j v, (rowM M)[j]? = some v → cur.toList[j]? = some v := fun j v hj => by
    have hjl : j < M.length * 7 := by rw [← rowM_len]; exact (List.getElem?_eq_some_iff.1 hj).1
    rw [← hct, List.getElem?_take_of_lt hjl] at hj
    exact hj
  have hold : (Builtin.firstCells i0.size i (.slice (some ⟨g, 0, none⟩) i cap)).run Tryd.prog w.drew = .ok (rowM (M.take i)).toArray w.drew := by
    rw [hzs]
    exact run_firstCells_some w.drew 7 i ⟨g, 0, none⟩ i cap (rowM (M.take i)) htl (fun j v hj => cells_at hgA 0 j v (by
      rw [List.drop_zero]
      refine hat j v ?_
      rw [hsplit, List.getElem?_append_left (by rw [htl]; have := (List.getElem?_eq_some_iff.1 hj).1; omega)]
      exact hj))
  have hkk : (M.length : Int) + 1 - (i : Int) = ((M.length + 1 - i : Nat) : Int) := by omega
  have hik : i + (M.length + 1 - i) = M.length + 1 := by omega
  have hrz : ∀ ty, (Builtin.append_ #[125, 3] ty #[.slice (some ⟨g, 0, none⟩) i cap, .int .i64 ((M.length : Int) + 1 - (i : Int))]).run Tryd.prog w =
      .ok (.slice (some ⟨w.heap.size, 0, none⟩) (M.length + 1) (grownCap w (M.length + 1) cap 124)) (w.drew.alloc (.cells ((rowM (M.take i)).toArray ++ Builtin.zeroCells zEn.cells (M.length + 1 - i) ++ Builtin.zeroCells zEn.cells (grownCap w (M.length + 1) cap 124 - (M.length + 1))) 124)) := fun ty => by
    have h := Lib.run_append_grow_zeros w 125 3 ty 124 i0 _ .i64 .i64 Tryd.underlying125 Tryd.underlying3 hi0 hz0 (some ⟨g, 0, none⟩) i cap (rowM (M.take i)) hold (M.length + 1 - i) (by omega) (by omega) (by omega) (by omega) (by rw [hzb]; omega) (by rw [hzb, hik]; exact growslice_fits hr (by omega))
    rw [hik] at h
    rw [hkk]
    exact h
  obtain ⟨G, hG⟩ : ∃ G, G = grownCap w (M.length + 1) cap 124 := ⟨_, rfl⟩
  have hGn : M.length + 1 ≤ G := by rw [hG]; exact grownCap_ge w _ _ _
  have hGm : G ≤ maxLen := by
    have := grownCap_le_maxLen w (M.length + 1) cap 124 (by unfold maxLen; omega)
    rw [← hG] at this
    exact this
  have hG63 : G ≤ 9223372036854775807 := by unfold maxLen at hGm; omega
  obtain ⟨ROW, hROW⟩ : ∃ ROW : List Value, ROW = rowM (M.take i) ++ ((Builtin.zeroCells zEn.cells (M.length + 1 - i)).toList ++ (Builtin.zeroCells zEn.cells (G - (M.length + 1))).toList) := ⟨_, rfl⟩
  have hRl : ROW.length = G * 7 := by
    rw [hROW]
    simp [htl, Builtin.zeroCells, zEn, Value.cells]
    omega
  have hRt : ROW.take (i * 7) = rowM (M.take i) := by
    rw [hROW, List.take_append_of_le_length (by omega), List.take_of_length_le (by omega)]
  have hRA : (rowM (M.take i)).toArray ++ Builtin.zeroCells zEn.cells (M.length + 1 - i) ++ Builtin.zeroCells zEn.cells (G - (M.length + 1)) = ROW.toArray := by
    apply Array.toList_inj.1
    rw [hROW]
    simp
  rw [← hG, hRA] at hrz
  clear hRA hROW
  obtain ⟨W1, hW1⟩ : ∃ W1, W1 = w.drew.alloc (.cells ROW.toArray 124) := ⟨_, rfl⟩
  rw [← hW1] at hrz
  have hN1 : W1.heap[w.heap.size]? = some (.cells ROW.toArray 124 (0, 0)) := by rw [hW1]; exact heap_alloc_new w.drew _
  have hx1 : W1.heap[bx]? = some (.cells (enC x).toArray 124 (0, 0)) := by rw [hW1, Below.heap_alloc _ _ _ (by exact hxl)]; exact hx
  have hg1 : W1.heap[g]? = some (.cells cur.toList.toArray 124 (0, 0)) := by rw [hW1, Below.heap_alloc _ _ _ (by exact hgl)]; exact hg
  have hmin2 : Nat.min 1 (M.length + 1 - i) = 1 := by simp only [Nat.min_def]; split <;> omega
  have hcp1 : ∀ ty dc, (Builtin.copy_ #[125, 125] ty #[.slice (some ⟨w.heap.size, i * 7, none⟩) (M.length + 1 - i) dc, .slice (some ⟨bx, 0, none⟩) 1 1]).run Tryd.prog W1 = .ok (goInt 1) (W1.setRow w.heap.size (splice ROW (i * 7) (enC x)).toArray) := fun ty dc => by
    have := run_copy_k (P := Tryd.prog) W1 125 125 ty 124 7 w.heap.size (i * 7) (M.length + 1 - i) dc ⟨bx, 0, none⟩ 1 1 _ 124 (enC x) Tryd.underlying125 size_entry hN1 (by rw [hmin2]; rfl)
      (by simpa using cells_at hx1 0) (by rw [List.size_toArray, hRl]; simp [enC]; omega) (enC_one _)
    rw [this, hmin2]
    simp [splice]
  obtain ⟨W2, hW2⟩ : ∃ W2, W2 = W1.setRow w.heap.size (splice ROW (i * 7) (enC x)).toArray := ⟨_, rfl⟩
  rw [← hW2] at hcp1
  have hsl2 : (splice ROW (i * 7) (enC x)).length = G * 7 := by rw [length_splice _ _ _ (by rw [hRl]; simp [enC]; omega), hRl]
  have hN2 : W2.drew.heap[w.heap.size]? = some (.cells (splice ROW (i * 7) (enC x)).toArray 124 (0, 0)) := by rw [hW2]; exact setRow_heap W1 _ _ _ _ _ hN1
  have hg2 : W2.drew.heap[g]? = some (.cells cur.toList.toArray 124 (0, 0)) := by rw [hW2]; exact (setRow_other W1 _ _ _ (by omega)).trans hg1
  have hmin : Nat.min (M.length - i) (M.length - i) = M.length - i := by simp
  have hcp2 : ∀ ty dc sc, (Builtin.copy_ #[125, 125] ty #[.slice (some ⟨w.heap.size, (i + 1) * 7, none⟩) (M.length - i) dc, .slice (some ⟨g, i * 7, none⟩) (M.length - i) sc]).run Tryd.prog W2.drew = .ok (goInt ((M.length - i : Nat) : Int)) (W2.drew.setRow w.heap.size (splice (splice ROW (i * 7) (enC x)) ((i + 1) * 7) (rowM (M.drop i))).toArray) := fun ty dc sc => by
    have := run_copy_k (P := Tryd.prog) W2.drew 125 125 ty 124 7 w.heap.size ((i + 1) * 7) (M.length - i) dc ⟨g, i * 7, none⟩ (M.length - i) sc _ 124 (rowM (M.drop i)) Tryd.underlying125 size_entry hN2 (by rw [hdl, hmin])
      (fun j v hj => cells_at hg2 (i * 7) j v (by
        rw [List.getElem?_drop]
        refine hat _ v ?_
        rw [hsplit, List.getElem?_append_right (by omega), htl, Nat.add_sub_cancel_left]
        exact hj)) (by rw [List.size_toArray, hsl2, hdl]; omega) (rowM_one _)
    rw [this, hmin]
    simp [splice]
  have hw1 : IntKind.i64.wrap ((i : Int) + 1) = (i : Int) + 1 := by rw [IntKind.wrap_i64]; omega
  have hb1 : (0 : Int) ≤ (i : Int) + 1 := by omega
  have htn : ((i : Int) + 1).toNat = i + 1 := by omega
  have hb2 : ¬ (G = i + 1) := by omega
  have hb3 : (i : Int) ≤ (M.length : Int) := by omega
  have hb4 : ¬ (G = i) := by omega
  have hb5 : ¬ (cap = i) := by omega
  have hin : i ≤ M.length := by omega
  have hz3 : (cap : Int) < (M.length : Int) + 1 := by omega
  have HN2 := hide hN2
  have HW1 := hide hW1
  have HW2 := hide hW2
  clear hg hx h hold hkk hik hG hN1 hx1 hg1 hN2 hg2 hW1 hW2 hgA hat hct
  go_enter Tryd.func109, Tryd.ntmps109
  go_wp2_with (first
    | (at_builtin; refine Lib.wpList_append_run _ rfl _ _ _ _ rfl _ _ rfl rfl _ _ (hrz _) ?_)
    | (at_builtin; refine wpList_copy _ rfl _ _ 125 125 rfl _ _ rfl rfl (hcp1 _ _) ?_))
  go_region_law (refine stp_copy rfl _ _ 125 125 rfl _ _ (by simp [Act.eval, Act.put]) (by simp [Act.eval, Act.put]) (hcp2 _ _ _) ?_)
  go_wp2
  go_ret
  have hlN : (M.take i ++ x :: M.drop i).length = M.length + 1 := by simp; omega
  refine ⟨_, rfl, ⟨by rw [rowM_len], .inr ⟨w.heap.size, G, (splice (splice ROW (i * 7) (enC x)) ((i + 1) * 7) (rowM (M.drop i))).toArray, by rw [hlN]; rfl, hB, ?_, by omega, hGm, ?_, ?_⟩⟩, ?_, fun g' hg' => .inr (Nat.le_of_eq (by simpa [Value.ownBlock] using hg'))⟩
  · exact setRow_heap W2.drew _ _ _ _ _ (unhide HN2)
  · rw [List.size_toArray, length_splice _ _ _ (by rw [hsl2, hdl]; omega), hsl2]
  · have hX : (enC x).length = 7 := rfl
    have := grow_splice ROW (rowM (M.take i)) (rowM (M.drop i)) (enC x) (i * 7) 7 htl hX hRt
    rw [hlN, rowM_app]
    show List.take _ (splice (splice ROW (i * 7) (enC x)) ((i + 1) * 7) (rowM (M.drop i))) = rowM (M.take i) ++ (enC x ++ rowM (M.drop i))
    rw [← this, hdl]
    have e : (i + 1) * 7 = i * 7 + 7 := by omega
    rw [e]
    congr 1
    omega
  · have e1 : ∀ k, k < w.heap.size → W1.heap[k]? = w.heap[k]? := fun k hk => by rw [unhide HW1]; exact Below.heap_alloc w.drew _ _ hk
    have s1 : W1.heap.size = w.heap.size + 1 := by rw [unhide HW1]; exact World.size_alloc w.drew _
    have hW2 := unhide HW2
    refine ⟨by rw [hW2, unhide HW1]; rfl, by rw [hW2, unhide HW1]; rfl, by rw [hW2, unhide HW1]; rfl, ?_, fun k hk _ => ?_⟩
    · rw [size_setRow]
      show w.heap.size ≤ W2.heap.size
      rw [hW2, size_setRow, s1]; omega
    · rw [setRow_other _ _ _ _ (by omega)]
      show W2.heap[k]? = _
      rw [hW2, setRow_other _ _ _ _ (by omega), e1 k hk]
end Go.Proofs.YtcbindgpbeaebaaDoor
